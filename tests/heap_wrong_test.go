package tests

import (
	"math"
	"slices"
	"testing"
	"time"

	"loop.example/g00201/impl"
)

func modelGoodHeap(h impl.Heap) bool {
	return wrongsIn(h, func(at int) int { return at }) == 0
}

// wrongsIn counts what is wrong with a heap whose pairs may name the cells ahead of a bound, each its own.
func wrongsIn(h impl.Heap, bound func(at int) int) int {
	wrong := 0
	count := func(is bool) {
		if is {
			wrong++
		}
	}
	names := func(at int, many int) bool { return at >= 0 && at < many }
	count(len(h.Cells) > 200)
	count(len(h.Roots) > 60)
	count(!names(h.Old, len(h.Cells)+1))
	for at, c := range h.Cells {
		count(c.Leaf && c != impl.Cell{Leaf: true, N: c.N})
		count(!c.Leaf && (c.N != 0 || !names(c.A, bound(at)) || !names(c.B, bound(at))))
	}
	for _, root := range h.Roots {
		count(!names(root, len(h.Cells)))
	}
	return wrong
}

// spoil changes one thing of a heap, which may then be good or not.
func (d *dice) spoil(h *impl.Heap) {
	number := d.below(len(h.Cells)+3) - 1
	if d.below(3) == 0 {
		number = wrongInts()[d.below(len(wrongInts()))]
	}
	what := d.below(7)
	switch {
	case what == 0:
		h.Old = number
	case what == 1:
		h.Roots = append(h.Roots, number)
	case what == 2 && len(h.Roots) > 0:
		h.Roots[d.below(len(h.Roots))] = number
	case len(h.Cells) > 0:
		c := &h.Cells[d.below(len(h.Cells))]
		switch what {
		case 3:
			c.Leaf = !c.Leaf
		case 4:
			c.N = number
		case 5:
			c.A = number
		default:
			c.B = number
		}
	}
}

// Heaps of any numbers are good or not as the model says, and all functions answer them.
func TestHeapsOfAnyNumbers(t *testing.T) {
	d := &dice{state: 727}
	good := 0
	for range 20000 {
		h := d.heap(d.below(9), d.below(5))
		for range 1 + d.below(2) {
			d.spoil(&h)
		}
		if modelGoodHeap(h) {
			good++
			heapAsModel(t, h)
		} else {
			noHeap(t, "a spoilt heap", h)
		}
	}
	if good < 2000 || good > 18000 {
		t.Errorf("%d of 20000 heaps are good", good)
	}
}

// roomy is a list with memory behind its length, and a look at whether all of that stays as it is.
func roomy[T comparable](l []T, behind ...T) ([]T, func() bool) {
	memory := slices.Concat(l, behind)
	before := slices.Clone(memory)
	return memory[:len(l)], func() bool { return slices.Equal(memory[:cap(memory)][:len(before)], before) }
}

// fill writes over a list that was answered, and what is behind it.
func fill[T any](l []T, with T) {
	l = l[:cap(l)]
	for at := range l {
		l[at] = with
	}
}

// isEmptyBehind asks for nothing behind a list's length: what went is not handed out.
func isEmptyBehind[T comparable](t *testing.T, l []T) {
	t.Helper()
	var zero T
	for _, one := range l[len(l):cap(l)] {
		if one != zero {
			t.Errorf("behind %v there is %v", l, one)
		}
	}
}

// Heaps that are given are not written into; what is behind their lists is neither read nor handed out; an answer that
// is written over by whoever asked changes nothing of them and no other answer.
func TestHeapsAreNotWritten(t *testing.T) {
	d := &dice{state: 733}
	var all []impl.Heap
	for _, c := range heapCases {
		all = append(all, c.heap)
	}
	for range 500 {
		h := d.heap(d.below(20), d.below(8))
		if d.below(4) == 0 {
			d.spoil(&h)
		}
		all = append(all, h)
	}
	all = append(all, doubled(), impl.Heap{Cells: leavesOf(impl.MaxCells), Roots: make([]int, 60)})
	for _, plain := range all {
		cells, cellsSame := roomy(plain.Cells, impl.Cell{Leaf: true, N: 99}, impl.Cell{A: -1, B: 77, N: 5})
		roots, rootsSame := roomy(plain.Roots, 0, -5, math.MaxInt)
		h := impl.Heap{Old: plain.Old, Cells: cells, Roots: roots}
		for _, collect := range []func(impl.Heap) (impl.Heap, bool){impl.CollectHeap, impl.MinorCollect} {
			want, wantOk := collect(plain)
			got, ok := collect(h)
			if !heapsAlike(got, want) || ok != wantOk {
				t.Errorf("%v: %v, %v; wanted %v, %v", plain, got, ok, want, wantOk)
			}
			isEmptyBehind(t, got.Cells)
			isEmptyBehind(t, got.Roots)
			other, _ := collect(h)
			fill(got.Cells, impl.Cell{N: 123})
			fill(got.Roots, -123)
			if !heapsAlike(other, want) || !cellsSame() || !rootsSame() {
				t.Errorf("%v: an answer shares memory with it or with another answer", plain)
			}
		}
		want, wantOk := impl.ReachIn(plain)
		got, ok := impl.ReachIn(h)
		other, _ := impl.ReachIn(h)
		if !slices.Equal(got, want) || ok != wantOk {
			t.Errorf("%v: ReachIn: %v, %v; wanted %v, %v", plain, got, ok, want, wantOk)
		}
		fill(got, -1)
		if !slices.Equal(other, want) {
			t.Errorf("%v: two answers of ReachIn share memory", plain)
		}
		if impl.GoodHeap(h) != impl.GoodHeap(plain) {
			t.Errorf("%v: what is behind it is read", plain)
		}
		for at := -1; at <= len(plain.Cells)+2; at++ {
			want, wantOk := impl.ShowCell(plain, at)
			if got, ok := impl.ShowCell(h, at); got != want || ok != wantOk {
				t.Errorf("%v: ShowCell %d: %q, %v; wanted %q, %v", plain, at, short(got), ok, short(want), wantOk)
			}
		}
		if !cellsSame() || !rootsSame() {
			t.Errorf("%v was written into", plain)
		}
	}
}

// Ops that are given are not written into, and what is behind them is not done.
func TestHeapOpsAreNotWritten(t *testing.T) {
	d := &dice{state: 739}
	for n := range 300 {
		plain := d.heapOps(d.below(40))
		if n == 0 {
			plain = d.heapOps(impl.MaxHeapOps)
		}
		l, same := roomy(plain, opsOf("leaf 1|show 0|show 1|collect")...)
		room := d.below(40)
		plays(t, l, room, 1+d.below(9))
		modelled(t, l)
		noPlay(t, l, -1, 1)
		noPlay(t, l, room, 0)
		if !same() {
			t.Errorf("%v was written into", plain)
		}
	}
	// Nothing is kept: ops begin with an empty heap each time.
	for range 3 {
		plays(t, opsOf("leaf 5|leaf 6|pair 0 1|show 2"), 3, 1)
		if p := plays(t, opsOf("show 0|show 2|same 0 0"), 3, 1); p != (heapPlay{}) {
			t.Errorf("a heap was kept: %+v", p)
		}
		modelled(t, opsOf("leaf 5|leaf 6"))
		if told := modelled(t, opsOf("show 0|show 1")); told != "" {
			t.Errorf("a heap was kept: %q", told)
		}
	}
}

// Ops of any kinds and numbers are answered, whatever room and nursery are.
func TestHeapOpsOfAnyNumbers(t *testing.T) {
	d := &dice{state: 743}
	number := func() int {
		if d.below(3) == 0 {
			return wrongInts()[d.below(len(wrongInts()))]
		}
		return d.below(12) - 1
	}
	for range 5000 {
		var l []impl.HeapOp
		for range d.below(50) {
			l = append(l, impl.HeapOp{Kind: number(), A: number(), B: number()})
		}
		room, nursery := number(), number()
		if room >= 0 && room <= impl.MaxCells && nursery >= 1 && nursery <= impl.MaxCells {
			plays(t, l, room, nursery)
		} else {
			noPlay(t, l, room, nursery)
		}
		modelled(t, l)
	}
}

// Lists of any length are answered in good time.
func TestHeapsInGoodTime(t *testing.T) {
	inTime(t, 20*time.Second, func() {
		many := 1 << 20
		noHeap(t, "a million leaves", impl.Heap{Cells: leavesOf(many), Roots: []int{many - 1}})
		noHeap(t, "a million pairs", impl.Heap{Cells: append(leavesOf(1), make([]impl.Cell, many)...)})
		noHeap(t, "a million roots", impl.Heap{Cells: leavesOf(1), Roots: make([]int, many)})
		for _, op := range opsOf("leaf 5|pair 0 0|first 0|drop 0|show 0|same 0 0|collect|minor|none") {
			l := slices.Repeat([]impl.HeapOp{op}, many)
			noPlay(t, l, impl.MaxCells, 1)
			told, ok := impl.ModelHeap(l)
			refused(t, "ModelHeap of a million ops", told, ok)
		}
		long := opsOf("leaf 1|pair 0 0|drop 0|pair 0 0|drop 0")
		long = append(slices.Repeat(long[1:3], 40), long...)
		long = append(opsOf("leaf 1"), long...)
		long = append(long, slices.Repeat(opsOf("show 0"), impl.MaxHeapOps-len(long))...)
		for range 2000 {
			impl.PlayHeap(long, impl.MaxCells, 1)
			impl.ModelHeap(long)
		}
	})
}

package tests

import (
	"math"
	"slices"
	"testing"
	"time"

	"loop.example/g00201/impl"
)

// spoilYoung changes one thing of a heap, which may then be good or not.
func (d *dice) spoilYoung(h *impl.Young) {
	number := d.below(len(h.Cells)+3) - 1
	if d.below(4) == 0 {
		number = wrongInts()[d.below(len(wrongInts()))]
	}
	switch d.below(4) {
	case 0:
		h.Noted = append(h.Noted, number)
	case 1:
		if at := d.below(len(h.Noted) + 1); at < len(h.Noted) {
			h.Noted[at] = number
		}
	case 2:
		if at := d.below(len(h.Noted) + 1); at < len(h.Noted) {
			h.Noted = slices.Delete(h.Noted, at, at+1)
		}
	default:
		plain := plainOf(*h)
		d.spoil(&plain)
		h.Old, h.Cells, h.Roots = plain.Old, plain.Cells, plain.Roots
	}
}

// Heaps of any numbers are good or not as the model says, and all functions answer them.
func TestYoungsOfAnyNumbers(t *testing.T) {
	d := &dice{state: 1543}
	good := 0
	for range 20000 {
		h := d.young(d.below(9), d.below(5))
		for range 1 + d.below(2) {
			d.spoilYoung(&h)
		}
		if modelGoodYoung(h) {
			good++
			youngAsModel(t, h)
			setAsModel(t, h, d.below(10)-1, d.below(2) == 0, d.below(10)-1)
		} else {
			noYoung(t, "a spoilt heap", h)
		}
	}
	if good < 3000 || good > 17000 {
		t.Errorf("%d of 20000 heaps are good", good)
	}
}

// youngsBy are the functions that answer a heap, of any one.
func youngsBy() []func(h impl.Young) (impl.Young, bool) {
	by := []func(h impl.Young) (impl.Young, bool){impl.FullCollect, impl.YoungCollect}
	for at := range 4 {
		by = append(by, func(h impl.Young) (impl.Young, bool) { return impl.SetPart(h, at, at%2 == 0, len(h.Cells)-1-at) })
	}
	return by
}

// Heaps that are given are not written into; what is behind their lists is neither read nor handed out; an answer that
// is written over by whoever asked changes nothing of them and no other answer.
func TestYoungsAreNotWritten(t *testing.T) {
	d := &dice{state: 1549}
	var all []impl.Young
	for _, c := range youngCases {
		all = append(all, c.heap)
	}
	for range 500 {
		h := d.young(d.below(20), d.below(8))
		if d.below(4) == 0 {
			d.spoilYoung(&h)
		}
		all = append(all, h)
	}
	all = append(all, impl.Young{Cells: ringOf(impl.MaxCells), Roots: make([]int, 60), Old: impl.MaxCells, Noted: countedTo(impl.MaxCells)})
	for _, plain := range all {
		cells, cellsSame := roomy(plain.Cells, impl.Cell{Leaf: true, N: 99}, impl.Cell{A: -1, B: 77, N: 5})
		roots, rootsSame := roomy(plain.Roots, 0, -5, math.MaxInt)
		noted, notedSame := roomy(plain.Noted, 0, -5, math.MaxInt)
		h := impl.Young{Old: plain.Old, Cells: cells, Roots: roots, Noted: noted}
		for _, by := range youngsBy() {
			want, wantOk := by(plain)
			got, ok := by(h)
			if !youngsAlike(got, want) || ok != wantOk {
				t.Errorf("%v: %v, %v; wanted %v, %v", plain, got, ok, want, wantOk)
			}
			isEmptyBehind(t, got.Cells)
			isEmptyBehind(t, got.Roots)
			isEmptyBehind(t, got.Noted)
			other, _ := by(h)
			fill(got.Cells, impl.Cell{N: 123})
			fill(got.Roots, -123)
			if !slices.Equal(got.Noted, want.Noted) {
				t.Errorf("%v: two lists of an answer share memory", plain)
			}
			fill(got.Noted, -123)
			if !youngsAlike(other, want) || !cellsSame() || !rootsSame() || !notedSame() {
				t.Errorf("%v: an answer shares memory with it or with another answer", plain)
			}
		}
		live, ok := impl.LiveIn(h)
		want, wantOk := impl.LiveIn(plain)
		if !slices.Equal(live, want) || ok != wantOk || impl.GoodYoung(h) != impl.GoodYoung(plain) {
			t.Errorf("%v: LiveIn: %v, %v; wanted %v, %v", plain, live, ok, want, wantOk)
		}
		other, _ := impl.LiveIn(h)
		fill(live, -1)
		if !slices.Equal(other, want) {
			t.Errorf("%v: two answers of LiveIn share memory", plain)
		}
		for at := -1; at <= len(plain.Cells)+2; at++ {
			want, wantOk := impl.ShowDeep(plain, at, 3)
			if got, ok := impl.ShowDeep(h, at, 3); got != want || ok != wantOk {
				t.Errorf("%v: ShowDeep %d: %q, %v; wanted %q, %v", plain, at, got, ok, want, wantOk)
			}
		}
		if !cellsSame() || !rootsSame() || !notedSame() {
			t.Errorf("%v was written into", plain)
		}
	}
}

// Ops that are given are not written into, and what is behind them is not done.
func TestWriteOpsAreNotWritten(t *testing.T) {
	d := &dice{state: 1553}
	for n := range 300 {
		plain := d.writeOps(d.below(40))
		if n == 0 {
			plain = d.writeOps(impl.MaxWriteOps)
		}
		l, same := roomy(plain, writesOf("leaf 1|show 0|show 1|setfirst 1 0|collect")...)
		room := d.below(40)
		playsWrites(t, l, room, 1+d.below(9))
		modelledWrites(t, l)
		noWrites(t, l, -1, 1)
		noWrites(t, l, room, 0)
		if !same() {
			t.Errorf("%v was written into", plain)
		}
	}
	// Nothing is kept: ops begin with an empty heap each time.
	for range 3 {
		playsWrites(t, writesOf("leaf 5|pair 0 0|minor|leaf 6|setfirst 1 2|show 1"), 3, 1)
		if p := playsWrites(t, writesOf("show 0|show 1|same 0 0|leaf 1|pair 0 0|minor|leaf 2|leaf 3|drop 3"), 4, 1); p != (heapPlay{}) {
			t.Errorf("a heap was kept: %+v", p)
		}
		modelledWrites(t, writesOf("leaf 5|leaf 6"))
		if told := modelledWrites(t, writesOf("show 0|show 1")); told != "" {
			t.Errorf("a heap was kept: %q", told)
		}
	}
}

// Ops of any kinds and numbers are answered, whatever room and nursery are.
func TestWriteOpsOfAnyNumbers(t *testing.T) {
	d := &dice{state: 1559}
	number := func() int {
		if d.below(3) == 0 {
			return wrongInts()[d.below(len(wrongInts()))]
		}
		return d.below(14) - 1
	}
	for range 5000 {
		var l []impl.HeapOp
		for range d.below(50) {
			l = append(l, impl.HeapOp{Kind: number(), A: number(), B: number()})
		}
		room, nursery := number(), number()
		if room >= 0 && room <= impl.MaxCells && nursery >= 1 && nursery <= impl.MaxCells {
			playsWrites(t, l, room, nursery)
		} else {
			noWrites(t, l, room, nursery)
		}
		modelledWrites(t, l)
	}
}

// Lists of any length are answered in good time, and so is the most that there may be to do.
func TestYoungsInGoodTime(t *testing.T) {
	inTime(t, 20*time.Second, func() {
		many := 1 << 20
		noYoung(t, "a million leaves", impl.Young{Cells: leavesOf(many), Roots: []int{many - 1}})
		noYoung(t, "a million pairs", impl.Young{Cells: make([]impl.Cell, many)})
		noYoung(t, "a million roots", impl.Young{Cells: leavesOf(1), Roots: make([]int, many)})
		noYoung(t, "a million notes", impl.Young{Cells: leavesOf(1), Old: 1, Noted: countedTo(many)})
		noYoung(t, "a million notes of no cell", impl.Young{Noted: make([]int, many)})
		for _, op := range writesOf("leaf 5|pair 0 0|first 0|drop 0|show 0|setfirst 0 0|same 0 0|collect|minor|none") {
			l := slices.Repeat([]impl.HeapOp{op}, many)
			noWrites(t, l, impl.MaxCells, 1)
			told, ok := impl.ModelWrites(l)
			refused(t, "ModelWrites of a million ops", told, ok)
		}
		ring := impl.Young{Cells: ringOf(impl.MaxCells), Roots: []int{7}}
		long := slices.Concat(writesOf("leaf 1|pair 0 0|setfirst 1 1|setsecond 1 1"), slices.Repeat(writesOf("pair 1 1|drop 2|show 1"), 48))
		for range 500 {
			impl.ShowDeep(ring, 3, 10)
			impl.FullCollect(ring)
			impl.YoungCollect(ring)
			impl.PlayWrites(long, impl.MaxCells, 1)
			impl.ModelWrites(long)
		}
	})
}

package impl

import (
	"cmp"
	"strconv"
)

const MaxDigits = 600

const (
	// maxPower and maxRadixDigits are the limits that the chapter tells at PowNat and OfRadix.
	maxPower       = 2000
	maxRadixDigits = 2000

	// Six digits a part: three parts beside each other, and the sum of all products in a column, fit an int;
	// and MaxDigits is a whole number of parts, so that their count alone tells whether a number is too long.
	partDigits = 6
	partBase   = 1000000
	mostParts  = MaxDigits / partDigits

	// A product has twice as many parts as its factors; a sum of products and a division look at a few more.
	widestParts = 2 * mostParts
	roomParts   = widestParts + 4

	// leadParts is how many parts fit an int.
	leadParts = 3
)

// nat is a number as parts in an array, the least one first. Parts from used on are 0, the last used one is not;
// while it is worked on, until carry, parts may be anything.
type nat struct {
	used int
	part [roomParts]int
}

// mix tells what two numbers n and b become: n1 times n and b1 times b, and n2 times n and b2 times b.
type mix struct {
	n1, b1, n2, b2 int
}

func GoodNat(s string) bool {
	if len(s) < 1 || len(s) > MaxDigits || s[0] == '0' && len(s) > 1 {
		return false
	}
	for at := range len(s) {
		if s[at] < '0' || s[at] > '9' {
			return false
		}
	}
	return true
}

func CompareNat(a string, b string) (int, bool) {
	x, y, ok := readNats(a, b)
	if !ok {
		return 0, false
	}
	return x.compare(y), true
}

func AddNat(a string, b string) (string, bool) {
	x, y, ok := readNats(a, b)
	if !ok {
		return "", false
	}
	return tellNat(x.plus(y))
}

func SubNat(a string, b string) (string, bool) {
	x, y, ok := readNats(a, b)
	if !ok {
		return "", false
	}
	rest, ok := x.minus(y, 1, 0)
	if !ok {
		return "", false
	}
	return tellNat(rest)
}

func MulNat(a string, b string) (string, bool) {
	x, y, ok := readNats(a, b)
	if !ok {
		return "", false
	}
	return tellNat(x.times(y))
}

func DivNat(a string, b string) (string, string, bool) {
	x, y, ok := readNats(a, b)
	if !ok || y.used == 0 {
		return "", "", false
	}
	quotient, rest := x.divide(y)
	return quotient.text(), rest.text(), true
}

func GcdNat(a string, b string) (string, bool) {
	x, y, ok := readNats(a, b)
	if !ok {
		return "", false
	}
	return tellNat(x.gcd(y))
}

func PowNat(a string, n int) (string, bool) {
	base, ok := readNat(a)
	if !ok || n < 0 || n > maxPower {
		return "", false
	}
	power := natOf(1)
	for range n {
		power = power.times(base)
		// A power that is too long stays so, and its product with base would outgrow the parts.
		if !power.fits() {
			return "", false
		}
	}
	return tellNat(power)
}

func ToRadix(a string, radix int) (string, bool) {
	n, ok := readNat(a)
	if !ok || !goodRadix(radix) {
		return "", false
	}
	return n.digits(radix), true
}

func OfRadix(s string, radix int) (string, bool) {
	if !goodRadix(radix) {
		return "", false
	}
	n, ok := readDigits(s, radix)
	if !ok {
		return "", false
	}
	return tellNat(n)
}

func goodRadix(radix int) bool {
	return radix == 2 || radix == 8 || radix == 10 || radix == 16
}

// digitOf gives what a digit of any radix is worth; of other bytes more than any radix has.
func digitOf(c byte) int {
	switch {
	case c >= '0' && c <= '9':
		return int(c - '0')
	case c >= 'a' && c <= 'f':
		return int(c-'a') + 10
	case c >= 'A' && c <= 'F':
		return int(c-'A') + 10
	}
	return 16
}

func readNats(a string, b string) (nat, nat, bool) {
	x, okX := readNat(a)
	y, okY := readNat(b)
	return x, y, okX && okY
}

func readNat(s string) (nat, bool) {
	var n nat
	if !GoodNat(s) {
		return n, false
	}
	for end := len(s); end > 0; end -= partDigits {
		for at := max(end-partDigits, 0); at < end; at++ {
			n.part[n.used] = n.part[n.used]*10 + digitOf(s[at])
		}
		n.used++
	}
	n.trim()
	return n, true
}

// readDigits reads the digits of a radix, needless noughts among them. What it gives may be too long for a natural
// number, as the top and the bottom of a fraction may be ahead of lowest terms.
func readDigits(s string, radix int) (nat, bool) {
	var n nat
	if len(s) < 1 || len(s) > maxRadixDigits {
		return n, false
	}
	for at := range len(s) {
		digit := digitOf(s[at])
		if digit >= radix {
			return n, false
		}
		n = n.timesSmall(radix, digit)
		// It is too long for any number by far, and some digits more would outgrow the parts.
		if n.used > widestParts {
			return n, false
		}
	}
	return n, true
}

// natOf makes a number of an int that is not below 0.
func natOf(small int) nat {
	n := nat{used: 1}
	n.part[0] = small
	n.carry()
	return n
}

func tellNat(n nat) (string, bool) {
	if !n.fits() {
		return "", false
	}
	return n.text(), true
}

func (n nat) text() string {
	if n.used == 0 {
		return "0"
	}
	text := strconv.AppendInt(nil, int64(n.part[n.used-1]), 10)
	for at := n.used - 2; at >= 0; at-- {
		// With the base added all noughts of a part stand behind a 1.
		text = append(text, strconv.Itoa(partBase + n.part[at])[1:]...)
	}
	return string(text)
}

// digits gives the text in any radix, of a number that fits.
func (n nat) digits(radix int) string {
	if radix == 10 {
		return n.text()
	}
	// The digits come least first, so the text is filled from its end; the radix 2 asks for less than four a decimal one.
	var text [4 * MaxDigits]byte
	at, digit := len(text), 0
	for {
		n, digit = n.divideSmall(radix)
		at--
		text[at] = "0123456789abcdef"[digit]
		if n.used == 0 {
			return string(text[at:])
		}
	}
}

// fits tells whether it has at most MaxDigits digits.
func (n nat) fits() bool {
	return n.used <= mostParts
}

func (n nat) isOne() bool {
	return n.used == 1 && n.part[0] == 1
}

func (n nat) compare(b nat) int {
	if n.used != b.used {
		return cmp.Compare(n.used, b.used)
	}
	for at := n.used - 1; at >= 0; at-- {
		if n.part[at] != b.part[at] {
			return cmp.Compare(n.part[at], b.part[at])
		}
	}
	return 0
}

func (n nat) plus(b nat) nat {
	for at := range b.used {
		n.part[at] += b.part[at]
	}
	n.used = max(n.used, b.used)
	n.carry()
	return n
}

// minus takes many times b, moved up by so many parts, away; false, where that is more than there is.
func (n nat) minus(b nat, many int, up int) (nat, bool) {
	for at := range b.used {
		n.part[up+at] -= many * b.part[at]
	}
	n.used = max(n.used, up+b.used)
	if !n.carry() {
		return nat{}, false
	}
	return n, true
}

func (n nat) times(b nat) nat {
	var product nat
	for i := range n.used {
		for j := range b.used {
			product.part[i+j] += n.part[i] * b.part[j]
		}
	}
	product.used = n.used + b.used
	product.carry()
	return product
}

// timesSmall multiplies by a number of one part and adds another one.
func (n nat) timesSmall(by int, add int) nat {
	for at := range n.used {
		n.part[at] *= by
	}
	n.part[0] += add
	n.used = max(n.used, 1)
	n.carry()
	return n
}

// divide gives the quotient by b, which is not 0, and what is left.
func (n nat) divide(b nat) (nat, nat) {
	if b.used == 1 {
		quotient, rest := n.divideSmall(b.part[0])
		return quotient, natOf(rest)
	}
	var quotient nat
	for up := n.used - b.used; up >= 0; up-- {
		many := n.guess(b, up)
	again:
		left, ok := n.minus(b, many, up)
		if !ok {
			many--
			goto again
		}
		n = left
		quotient.part[up] = many
		quotient.used = max(quotient.used, up+1)
	}
	quotient.trim()
	return quotient, n
}

// guess tells, by the first parts alone, how often b, moved up by so many parts, is in a number that is less than
// partBase times that. As two parts of b are looked at it is never too small, and by at most 1 too great.
func (n nat) guess(b nat, up int) int {
	top := up + b.used
	first := (n.part[top]*partBase+n.part[top-1])*partBase + n.part[top-2]
	return first / (b.part[b.used-1]*partBase + b.part[b.used-2])
}

// divideSmall divides by a number of one part, which is not 0.
func (n nat) divideSmall(by int) (nat, int) {
	rest := 0
	for at := n.used - 1; at >= 0; at-- {
		rest = rest*partBase + n.part[at]
		n.part[at] = rest / by
		rest %= by
	}
	n.trim()
	return n, rest
}

// gcd goes by the first parts of both numbers alone, as Lehmer does it, for as many quotients as these are sure of.
func (n nat) gcd(b nat) nat {
	for b.used > 0 {
		top := max(n.used, b.used, leadParts)
		x, y := n.lead(top), b.lead(top)
		if top == leadParts {
			return natOf(gcdOf(x, y))
		}
		if m := sureSteps(x, y); m.b1 != 0 {
			n, b = n.combined(m.n1, b, m.b1), n.combined(m.n2, b, m.b2)
			continue
		}
		_, rest := n.divide(b)
		n, b = b, rest
	}
	return n
}

// lead gives the first parts of a number of so many parts as one int.
func (n nat) lead(top int) int {
	return (n.part[top-1]*partBase+n.part[top-2])*partBase + n.part[top-3]
}

func gcdOf(x int, y int) int {
	for y > 0 {
		x, y = y, x%y
	}
	return x
}

// sureSteps gives what steps of Euclid's make of two numbers that begin with x and y, as far as a quotient is sure: the
// same whatever may stand behind. None of the mix then goes beyond the root of x, so its products with parts fit an int.
func sureSteps(x int, y int) mix {
	m := mix{n1: 1, b2: 1}
	for y+m.n2 != 0 && y+m.b2 != 0 {
		quotient := (x + m.n1) / (y + m.n2)
		if quotient != (x+m.b1)/(y+m.b2) {
			break
		}
		m = mix{m.n2, m.b2, m.n1 - quotient*m.n2, m.b1 - quotient*m.b2}
		x, y = y, x-quotient*y
	}
	return m
}

// combined gives x times n and y times b together, which is not below 0.
func (n nat) combined(x int, b nat, y int) nat {
	n.used = max(n.used, b.used)
	for at := range n.used {
		n.part[at] = x*n.part[at] + y*b.part[at]
	}
	n.carry()
	return n
}

// carry brings every part back into 0..partBase-1, what is over or lacks going on to the next one; false, where the
// number is below 0.
func (n *nat) carry() bool {
	at, over := 0, 0
next:
	if at < n.used || over > 0 {
		over += n.part[at]
		n.part[at] = over % partBase
		over /= partBase
		if n.part[at] < 0 {
			n.part[at] += partBase
			over--
		}
		at++
		goto next
	}
	n.used = at
	n.trim()
	return over == 0
}

// trim leaves out noughts ahead.
func (n *nat) trim() {
	for n.used > 0 && n.part[n.used-1] == 0 {
		n.used--
	}
}

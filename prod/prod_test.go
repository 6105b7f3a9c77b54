package prod

import (
	"fmt"
	"math"
	"math/big"
	"slices"
	"testing"

	"planimeter/api"
	"planimeter/nat"
)

const full = math.MaxUint64

// toBig is a number by math/big, which the tests hold the package against.
func toBig(a []uint64) *big.Int {
	sum := new(big.Int)
	for i := len(a) - 1; i >= 0; i-- {
		sum.Lsh(sum, 64)
		sum.Or(sum, new(big.Int).SetUint64(a[i]))
	}
	return sum
}

// fromBig is the bare list of a number of math/big.
func fromBig(n *big.Int) []uint64 {
	rest := new(big.Int).Set(n)
	low := new(big.Int)
	mask := new(big.Int).SetUint64(full)
	var list []uint64
	for rest.Sign() > 0 {
		list = append(list, low.And(rest, mask).Uint64())
		rest.Rsh(rest, 64)
	}
	return list
}

// samples are edges first, then numbers of a fixed rule, bare and not.
func samples() [][]uint64 {
	list := [][]uint64{
		nil, {}, {0}, {0, 0, 0},
		{1}, {1, 0, 0}, {2}, {3}, {10}, {6, 0}, {full}, {full, 0}, {1 << 63}, {1<<32 - 1}, {1 << 32},
		{0, 1}, {1, 1}, {0, 1, 0}, {full, 1}, {0, 1 << 63}, {1, 1 << 63}, {0, 6},
		{full, full}, {full, full, 0}, {full - 1, full}, {0, full}, {0, 0, 1}, {1, 0, 1},
		{full, full, full}, {full, full, full, full, full, full, full}, {0, 0, 12, 0, 4, 0, 0},
	}
	state := uint64(3)
	for n := range 20 {
		number := make([]uint64, n%7)
		for i := range number {
			state = state*6364136223846793005 + 1442695040888963407
			number[i] = state ^ state>>29
		}
		list = append(list, number)
	}
	return list
}

// ofBits is a number with just so many bits, all of them 1.
func ofBits(n int) []uint64 {
	one := big.NewInt(1)
	return fromBig(new(big.Int).Sub(new(big.Int).Lsh(one, uint(n)), one))
}

// two is 2 to the power n.
func two(n int) []uint64 {
	return fromBig(new(big.Int).Lsh(big.NewInt(1), uint(n)))
}

// told holds an answer without an error against the bare list that was awaited.
func told(t *testing.T, what string, got []uint64, err api.Errno, want []uint64) {
	t.Helper()
	if err != api.OK || !slices.Equal(got, want) {
		t.Errorf("%s: %v, %d, not %v", what, short(got), err, short(want))
	}
}

// refused holds an answer against an error, beside which there is no list.
func refused(t *testing.T, what string, got []uint64, err, want api.Errno) {
	t.Helper()
	if err != want || len(got) != 0 {
		t.Errorf("%s: %v, %d, not %d", what, short(got), err, want)
	}
}

// short spares the reader the thousand limbs of a long list.
func short(a []uint64) string {
	if len(a) > 12 {
		return fmt.Sprintf("%v.. (%d limbs)", a[:12], len(a))
	}
	return fmt.Sprint(a)
}

func TestMul(t *testing.T) {
	for _, a := range samples() {
		for _, b := range samples() {
			got, err := Mul(a, b)
			want := fromBig(new(big.Int).Mul(toBig(a), toBig(b)))
			told(t, fmt.Sprintf("P2.1: Mul of %v and %v", a, b), got, err, want)
		}
	}
}

func TestMulLong(t *testing.T) {
	for _, bits := range [][2]int{{65535, 1}, {65536 - 64, 64}, {32768, 32768}, {40000, 25536}, {6400, 12800}, {1, 3000}} {
		a, b := ofBits(bits[0]), ofBits(bits[1])
		want := fromBig(new(big.Int).Mul(toBig(a), toBig(b)))
		got, err := Mul(a, b)
		told(t, fmt.Sprintf("P2.1: Mul of %v bits", bits), got, err, want)
		got, err = Mul(b, append(slices.Clone(a), 0, 0))
		told(t, fmt.Sprintf("P2.1: Mul of %v bits, the other way", bits), got, err, want)
	}
}

func TestMulLimit(t *testing.T) {
	for _, bits := range [][2]int{{65536, 1}, {1, 65536}, {65535, 2}, {32768, 32769}, {65473, 64}, {65537, 1}, {70000, 70000}} {
		got, err := Mul(ofBits(bits[0]), ofBits(bits[1]))
		refused(t, fmt.Sprintf("P2.1: Mul of %v bits", bits), got, err, api.ErrLong)
		// Their product would have as many bits as may be, or one more: it is the bits of both that count.
		got, err = Mul(two(bits[0]-1), two(bits[1]-1))
		refused(t, fmt.Sprintf("P2.1: Mul of powers of 2 of %v bits", bits), got, err, api.ErrLong)
	}
}

func TestMulOfNoughtIsNeverLong(t *testing.T) {
	for _, nought := range [][]uint64{nil, {}, {0}, make([]uint64, 1100)} {
		for _, a := range [][]uint64{nil, {0, 0}, {1}, ofBits(65536), ofBits(65537), ofBits(200000)} {
			got, err := Mul(nought, a)
			told(t, "P2.1: Mul of 0", got, err, nil)
			got, err = Mul(a, nought)
			told(t, "P2.1: Mul by 0", got, err, nil)
		}
	}
}

func TestTimes(t *testing.T) {
	for _, a := range samples() {
		for _, n := range []uint64{0, 1, 2, 6, 10, 1 << 32, 1 << 63, full - 1, full} {
			got, err := Times(a, n)
			want := fromBig(new(big.Int).Mul(toBig(a), new(big.Int).SetUint64(n)))
			told(t, fmt.Sprintf("P2.1: Times of %v and %d", a, n), got, err, want)
		}
	}
}

func TestTimesLimit(t *testing.T) {
	got, err := Times(ofBits(65535), 1)
	told(t, "P2.1: Times 1", got, err, ofBits(65535))
	got, err = Times(ofBits(65536), 0)
	told(t, "P2.1: Times 0", got, err, nil)
	got, err = Times(ofBits(65536), 1)
	refused(t, "P2.1: Times 1", got, err, api.ErrLong)
	got, err = Times(ofBits(65472), full)
	told(t, "P2.1: Times 2^64-1", got, err, fromBig(new(big.Int).Mul(toBig(ofBits(65472)), toBig([]uint64{full}))))
	got, err = Times(ofBits(65473), full)
	refused(t, "P2.1: Times 2^64-1", got, err, api.ErrLong)
}

func TestPow(t *testing.T) {
	got, err := Pow([]uint64{3}, 4)
	told(t, "P2.2: the example", got, err, []uint64{81})
	for _, a := range samples() {
		for k := range 21 {
			got, err := Pow(a, k)
			want := fromBig(new(big.Int).Exp(toBig(a), big.NewInt(int64(k)), nil))
			told(t, fmt.Sprintf("P2.2: Pow of %v and %d", a, k), got, err, want)
		}
	}
}

func TestPowOfNoughtAndOne(t *testing.T) {
	for _, k := range []int{1, 2, 65535, 65536, 1 << 62, math.MaxInt} {
		for _, a := range [][]uint64{nil, {}, {0, 0}} {
			got, err := Pow(a, k)
			told(t, fmt.Sprintf("P2.2: Pow of 0 and %d", k), got, err, nil)
		}
		for _, a := range [][]uint64{{1}, {1, 0, 0}} {
			got, err := Pow(a, k)
			told(t, fmt.Sprintf("P2.2: Pow of 1 and %d", k), got, err, []uint64{1})
		}
	}
	for _, a := range [][]uint64{nil, {0}, {1}, {7}, ofBits(65536), ofBits(65537), ofBits(200000)} {
		got, err := Pow(a, 0)
		told(t, "P2.2: Pow of k 0", got, err, []uint64{1})
	}
}

func TestPowBelowNought(t *testing.T) {
	for _, k := range []int{-1, -2, math.MinInt + 1, math.MinInt} {
		for _, a := range [][]uint64{nil, {0}, {1}, {7}, ofBits(65537)} {
			got, err := Pow(a, k)
			refused(t, fmt.Sprintf("P2.2: Pow of k %d", k), got, err, api.ErrArg)
		}
	}
}

// longest is the greatest k at which a's power has at most 65536 bits.
func longest(a []uint64) int {
	number := toBig(a)
	power := new(big.Int).Set(number)
	k := 1
	for {
		power.Mul(power, number)
		if power.BitLen() > api.MaxBits {
			return k
		}
		k++
	}
}

func TestPowLimit(t *testing.T) {
	for _, a := range [][]uint64{{2}, {3}, {4}, {5}, {10}, {full}, {1 << 63}, {0, 1}, {full, full}, ofBits(1000), two(1000),
		ofBits(32768), two(32767), ofBits(32769), two(32768), ofBits(65536), two(65535)} {
		k := longest(a)
		got, err := Pow(a, k)
		told(t, fmt.Sprintf("P2.2: Pow of %s and %d", short(a), k), got, err,
			fromBig(new(big.Int).Exp(toBig(a), big.NewInt(int64(k)), nil)))
		for _, more := range []int{k + 1, k + 2, 2 * k, 65536, 1 << 40, 1 << 48, 1 << 62, math.MaxInt} {
			if more <= k {
				continue
			}
			got, err = Pow(a, more)
			refused(t, fmt.Sprintf("P2.2: Pow of %s and %d", short(a), more), got, err, api.ErrLong)
		}
	}
	for _, a := range [][]uint64{ofBits(65537), two(65536), ofBits(200000)} {
		for _, k := range []int{1, 2, math.MaxInt} {
			got, err := Pow(a, k)
			refused(t, "P2.2: Pow of one that is too long", got, err, api.ErrLong)
		}
	}
}

func TestSum(t *testing.T) {
	lists := [][][]uint64{
		nil, {}, {nil}, {{0}, {}, nil}, {{5, 0}}, {{full}, {1}}, {{1}, {full, full, full}}, {{full, full, full, 0}, {1}},
		{{full}, {full}, {full}}, {{0, 0, 1}, {0, 1}, {1}}, {ofBits(70000), {1}}, {{1}, ofBits(65536), ofBits(65536)},
		samples(),
	}
	for range 5 {
		lists = append(lists, slices.Repeat([][]uint64{{full, full}}, 1000*len(lists)))
	}
	for i, l := range lists {
		want := new(big.Int)
		for _, a := range l {
			want.Add(want, toBig(a))
		}
		told(t, fmt.Sprintf("P2.1: Sum of list %d", i), Sum(l), api.OK, fromBig(want))
	}
}

func TestOrderOfFactors(t *testing.T) {
	for _, a := range samples() {
		for _, b := range samples() {
			one, err := Mul(a, b)
			other, errOther := Mul(b, a)
			if err != errOther {
				t.Errorf("P2.3: %v and %v: %d, %d", a, b, err, errOther)
			}
			told(t, fmt.Sprintf("P2.3: %v and %v", a, b), one, err, other)
		}
	}
}

func TestSharedOutOverASum(t *testing.T) {
	list := samples()
	for i, a := range list {
		for j, b := range list {
			c := list[(i+3*j)%len(list)]
			whole, err := Mul(a, Sum([][]uint64{b, c}))
			first, errFirst := Mul(a, b)
			second, errSecond := Mul(a, c)
			if errFirst != api.OK || errSecond != api.OK {
				t.Errorf("P2.3: %v, %v and %v: %d, %d", a, b, c, errFirst, errSecond)
			}
			told(t, fmt.Sprintf("P2.3: %v over %v and %v", a, b, c), whole, err, nat.Add(first, second))
		}
	}
}

func TestExponentsAddUp(t *testing.T) {
	for _, a := range samples() {
		for j := range 7 {
			for k := range 7 {
				whole, err := Pow(a, j+k)
				first, errFirst := Pow(a, j)
				second, errSecond := Pow(a, k)
				product, errProduct := Mul(first, second)
				if err != api.OK || errFirst != api.OK || errSecond != api.OK {
					t.Errorf("P2.3: %v to %d and %d: %d, %d, %d", a, j, k, err, errFirst, errSecond)
				}
				told(t, fmt.Sprintf("P2.3: %v to %d and %d", a, j, k), product, errProduct, whole)
			}
		}
	}
}

// calls are all of the package, with the list that each one tells.
func calls(a, b []uint64, k int) map[string][]uint64 {
	product, _ := Mul(a, b)
	square, _ := Mul(a, a)
	times, _ := Times(a, 5)
	power, _ := Pow(a, k)
	return map[string][]uint64{"Mul": product, "Mul by itself": square, "Times": times, "Pow": power,
		"Sum": Sum([][]uint64{a, b, a}), "Sum of one": Sum([][]uint64{a})}
}

// roomy is a with spare room behind it, which no call may write to or hand out.
func roomy(a []uint64) (list, all []uint64) {
	all = append(slices.Clone(a), 77, 77)
	return all[:len(a)], all
}

func TestWhatIsHandedInStays(t *testing.T) {
	for _, a := range samples() {
		for _, b := range samples() {
			for _, k := range []int{-1, 0, 1, 2, 3} {
				listA, allA := roomy(a)
				listB, allB := roomy(b)
				keptA, keptB := slices.Clone(allA), slices.Clone(allB)
				for what, list := range calls(listA, listB, k) {
					list = list[:cap(list)]
					for i := range list {
						list[i] ^= full
					}
					if !slices.Equal(allA, keptA) || !slices.Equal(allB, keptB) {
						t.Fatalf("R4: %s of %v and %v changes or shares what is handed in", what, a, b)
					}
				}
			}
		}
	}
}

func TestSumLeavesTheListOfLists(t *testing.T) {
	list := [][]uint64{{1, 0, 0}, nil, {full}}
	Sum(list)
	if len(list) != 3 || len(list[0]) != 3 || list[1] != nil || len(list[2]) != 1 {
		t.Errorf("R4: Sum: %v", list)
	}
}

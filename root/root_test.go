package root

import (
	"fmt"
	"math"
	"math/big"
	"slices"
	"testing"

	"planimeter/api"
	"planimeter/nat"
	"planimeter/prod"
)

const full = math.MaxUint64

// toBig is a number by math/big, which the tests hold the package against.
func toBig(a []uint64) *big.Int {
	sum := new(big.Int)
	for i := len(a) - 1; i >= 0; i-- {
		sum.Lsh(sum, 64)
		sum.Or(sum, new(big.Int).SetUint64(a[i]))
	}
	return sum
}

// fromBig is the bare list of a number of math/big.
func fromBig(n *big.Int) []uint64 {
	rest := new(big.Int).Set(n)
	low := new(big.Int)
	mask := new(big.Int).SetUint64(full)
	var list []uint64
	for rest.Sign() > 0 {
		list = append(list, low.And(rest, mask).Uint64())
		rest.Rsh(rest, 64)
	}
	return list
}

// samples are edges first, then numbers of a fixed rule, bare and not.
func samples() [][]uint64 {
	list := [][]uint64{
		nil, {}, {0}, {0, 0, 0},
		{1}, {1, 0, 0}, {2}, {3}, {4}, {5}, {6, 0}, {7}, {8}, {9}, {15}, {16}, {17}, {26}, {27}, {28}, {30}, {80}, {81}, {82},
		{full}, {full, 0}, {full - 1}, {1 << 63}, {1<<32 - 1}, {1 << 32}, {1<<63 + 1}, {0xfffffffe00000000}, {0xfffffffe00000001}, {0xfffffffe00000002},
		{0, 1}, {1, 1}, {0, 1, 0}, {full, 1}, {0, 1 << 63}, {0, 4}, {full, 3}, {1, 4}, {full, full}, {full, full, 0}, {1, full - 1}, {0, full - 1},
		{0, 0, 1}, {full, full, full}, {1, 0, 1}, {0, 0, 12, 0, 4, 0, 0}, {full, full, full, full, full, full, full}, {0, 0, 0, 0, 1 << 62},
	}
	return append(list, rolled(30, 8)...)
}

// rolled are n numbers of a fixed rule, of less than limbs limbs.
func rolled(n, limbs int) [][]uint64 {
	var list [][]uint64
	state := uint64(4)
	for i := range n {
		number := make([]uint64, i%limbs)
		for j := range number {
			state = state*6364136223846793005 + 1442695040888963407
			number[j] = state ^ state>>29
		}
		list = append(list, number)
	}
	return list
}

// ofBits is a number with just so many bits, all of them 1.
func ofBits(n int) []uint64 {
	one := big.NewInt(1)
	return fromBig(new(big.Int).Sub(new(big.Int).Lsh(one, uint(n)), one))
}

// two is 2 to the power n.
func two(n int) []uint64 {
	return fromBig(new(big.Int).Lsh(big.NewInt(1), uint(n)))
}

// moved is a and a few more, or fewer; of a number below 0 it is 0.
func moved(a []uint64, more int64) []uint64 {
	sum := new(big.Int).Add(toBig(a), big.NewInt(more))
	if sum.Sign() < 0 {
		return nil
	}
	return fromBig(sum)
}

// short spares the reader the hundred limbs of a long list.
func short(a []uint64) string {
	if len(a) > 12 {
		return fmt.Sprintf("%v.. (%d limbs)", a[:12], len(a))
	}
	return fmt.Sprint(a)
}

// told holds an answer against the one that was awaited.
func told(t *testing.T, what string, got []uint64, is bool, err api.Errno, want []uint64, wantIs bool) {
	t.Helper()
	if err != api.OK || is != wantIs || !slices.Equal(got, want) {
		t.Errorf("%s: %s, %v, %d, not %s, %v", what, short(got), is, err, short(want), wantIs)
	}
}

// refused holds an answer against an error, beside which all is nought.
func refused(t *testing.T, what string, got []uint64, is bool, err, want api.Errno) {
	t.Helper()
	if err != want || is || len(got) != 0 {
		t.Errorf("%s: %s, %v, %d, not error %d", what, short(got), is, err, want)
	}
}

// bisected is the k-th root by math/big, bit by bit from the top, and whether it is exact: nothing of Newton's in it.
func bisected(a []uint64, k int) ([]uint64, bool) {
	number, root := toBig(a), new(big.Int)
	power := new(big.Int)
	if k > number.BitLen() {
		// Below 2^k there are the roots 0 and 1 alone.
		one := big.NewInt(int64(number.Sign()))
		return fromBig(one), number.Cmp(one) == 0
	}
	exponent := big.NewInt(int64(k))
	for place := number.BitLen() / k; place >= 0; place-- {
		root.SetBit(root, place, 1)
		if power.Exp(root, exponent, nil).Cmp(number) > 0 {
			root.SetBit(root, place, 0)
		}
	}
	return fromBig(root), power.Exp(root, exponent, nil).Cmp(number) == 0
}

// rooted holds Root against bisection.
func rooted(t *testing.T, a []uint64, k int) {
	t.Helper()
	want, wantIs := bisected(a, k)
	got, is, err := Root(a, k)
	told(t, fmt.Sprintf("P4.1: Root of %s and %d", short(a), k), got, is, err, want, wantIs)
}

func TestExample(t *testing.T) {
	got, is, err := Root([]uint64{30}, 3)
	told(t, "P4.1: the example", got, is, err, []uint64{3}, false)
}

func TestRoot(t *testing.T) {
	for _, a := range samples() {
		for _, k := range []int{1, 2, 3, 4, 5, 6, 7, 8, 11, 16, 31, 32, 33, 63, 64, 65, 100, 127, 128, 129, 200, 257, 448, 449} {
			rooted(t, a, k)
		}
	}
}

func TestRootOfAllSmall(t *testing.T) {
	for n := range uint64(1100) {
		for k := 1; k <= 12; k++ {
			rooted(t, []uint64{n}, k)
		}
	}
}

func TestRootOfGreatK(t *testing.T) {
	for _, k := range []int{8191, 8192, 8193, 1 << 20, 1 << 40, math.MaxInt - 1, math.MaxInt} {
		for _, a := range append(samples(), ofBits(8192), two(8191), two(8190)) {
			rooted(t, a, k)
		}
	}
}

func TestRootOfLong(t *testing.T) {
	long := rolled(130, 129)
	for _, a := range [][]uint64{ofBits(8192), two(8191), moved(two(8191), -1), two(8190), long[127], long[128], long[90]} {
		for _, k := range []int{1, 2, 3, 5, 7, 64, 100, 333, 512, 1000, 2730, 4095, 4096, 4097, 8190, 8191, 8192} {
			rooted(t, a, k)
		}
	}
}

func TestRootOfTooLong(t *testing.T) {
	for _, a := range [][]uint64{two(8192), ofBits(8193), ofBits(9000), ofBits(65536), ofBits(70000), append(two(8192), 0, 0)} {
		for _, k := range []int{1, 2, 3, 8193, 9000, math.MaxInt} {
			got, is, err := Root(a, k)
			refused(t, fmt.Sprintf("P4.1: Root of %d bits and %d", nat.Bits(a), k), got, is, err, api.ErrLong)
		}
		for _, k := range []int{0, 1, 2, 20, math.MaxInt} {
			got, is, err := Halves(a, k)
			refused(t, fmt.Sprintf("P4.2: Halves of %d bits and %d", nat.Bits(a), k), got, is, err, api.ErrLong)
			order, err := Order(a, k)
			refused(t, fmt.Sprintf("P4.3: Order of %d bits up to %d", nat.Bits(a), k), nat.Of(uint64(order)), false, err, api.ErrLong)
		}
	}
}

// Noughts above the number's top bit don't make it long.
func TestLongListsOfShortNumbers(t *testing.T) {
	a := append([]uint64{81}, make([]uint64, 2000)...)
	got, is, err := Root(a, 2)
	told(t, "P4.1: Root of a long list", got, is, err, []uint64{9}, true)
	got, is, err = Root(a, 1)
	told(t, "P4.1: Root of a long list and 1", got, is, err, []uint64{81}, true)
	got, is, err = Halves(a, 2)
	told(t, "P4.2: Halves of a long list", got, is, err, []uint64{3}, true)
	got, is, err = Halves(a, 0)
	told(t, "P4.2: Halves of a long list and 0", got, is, err, []uint64{81}, true)
	if order, err := Order(a, 9); order != 2 || err != api.OK {
		t.Errorf("P4.3: Order of a long list: %d, %d", order, err)
	}
}

func TestWrongArguments(t *testing.T) {
	for _, a := range append(samples(), ofBits(8193), ofBits(70000)) {
		for _, k := range []int{-1, -2, -64, math.MinInt + 1, math.MinInt} {
			got, is, err := Root(a, k)
			refused(t, fmt.Sprintf("P4.1: Root of %s and %d", short(a), k), got, is, err, api.ErrArg)
			got, is, err = Halves(a, k)
			refused(t, fmt.Sprintf("P4.2: Halves of %s and %d", short(a), k), got, is, err, api.ErrArg)
			order, err := Order(a, k)
			refused(t, fmt.Sprintf("P4.3: Order of %s up to %d", short(a), k), nat.Of(uint64(order)), false, err, api.ErrArg)
		}
		got, is, err := Root(a, 0)
		refused(t, fmt.Sprintf("P4.1: Root of %s and 0", short(a)), got, is, err, api.ErrArg)
	}
}

func TestHalves(t *testing.T) {
	for _, a := range append(samples(), ofBits(8192), two(8191), two(4096), moved(two(4096), 1), moved(two(8192), -1)) {
		for k := range 16 {
			want, wantIs := bisected(a, 1<<k)
			got, is, err := Halves(a, k)
			told(t, fmt.Sprintf("P4.2: Halves of %s and %d", short(a), k), got, is, err, want, wantIs)
		}
	}
}

// An inexact square root may itself be a square: what was lost first stays lost.
func TestHalvesThatLose(t *testing.T) {
	for _, a := range []uint64{17, 24, 82, 99, 257, 65537, 65280 + 200} {
		want, wantIs := bisected([]uint64{a}, 4)
		got, is, err := Halves([]uint64{a}, 2)
		told(t, fmt.Sprintf("P4.2: Halves of %d and 2", a), got, is, err, want, wantIs)
		if is {
			t.Errorf("P4.2: Halves of %d and 2 is told as exact", a)
		}
	}
}

func TestHalvesOfGreatK(t *testing.T) {
	for _, k := range []int{13, 14, 62, 63, 64, 65, 1 << 40, math.MaxInt} {
		for _, a := range append(samples(), ofBits(8192)) {
			want := nat.Of(uint64(min(nat.Bits(a), 1)))
			got, is, err := Halves(a, k)
			told(t, fmt.Sprintf("P4.2: Halves of %s and %d", short(a), k), got, is, err, want, nat.Bits(a) < 2)
		}
	}
}

// ordered is the order up to most, by bisection.
func ordered(a []uint64, most int) int {
	if nat.Bits(a) == 1 {
		return most
	}
	order := 0
	for order < min(most, 14) {
		if _, is := bisected(a, 1<<(order+1)); !is {
			break
		}
		order++
	}
	return order
}

func TestOrder(t *testing.T) {
	list := append(samples(), ofBits(8192), two(8191), two(4096), two(8190), two(6144), moved(two(4096), 1))
	for n := uint64(1); n < 300; n++ {
		list = append(list, nat.Of(n))
	}
	for _, a := range list {
		for _, most := range []int{0, 1, 2, 3, 4, 9, 11, 12, 13, 64, 1 << 40, math.MaxInt} {
			order, err := Order(a, most)
			if nat.Bits(a) == 0 {
				refused(t, fmt.Sprintf("P4.3: Order of 0 up to %d", most), nat.Of(uint64(order)), false, err, api.ErrArg)
			} else if want := ordered(a, most); order != want || err != api.OK {
				t.Errorf("P4.3: Order of %s up to %d: %d, %d, not %d", short(a), most, order, err, want)
			}
		}
	}
}

func TestOrderOfPowers(t *testing.T) {
	for _, base := range []uint64{2, 3, 5, 6, 10, 12, 1<<32 - 1, full, full - 1} {
		for k := 0; k < 8; k++ {
			a, err := prod.Pow(nat.Of(base), 1<<k)
			if err != api.OK || nat.Bits(a) > maxBits {
				continue
			}
			for most := range 10 {
				if order, err := Order(a, most); order != min(k, most) || err != api.OK {
					t.Errorf("P4.3: Order of %d to the power 2^%d up to %d: %d, %d", base, k, most, order, err)
				}
			}
		}
	}
}

func TestPowersHaveTheirRoots(t *testing.T) {
	bases := append(samples(), two(8191), ofBits(4096), ofBits(2730), ofBits(1000))
	for _, base := range bases {
		for _, k := range []int{1, 2, 3, 4, 5, 7, 8, 16, 17, 31, 64, 100, 129, 1000, 4095, 4096, 8190} {
			a, err := prod.Pow(base, k)
			if err != api.OK || nat.Bits(a) > maxBits {
				continue
			}
			got, is, err := Root(a, k)
			told(t, fmt.Sprintf("P4.4: Root of %s to the power %d", short(base), k), got, is, err, nat.Bare(base), true)
			// On either side of a power: the root is one less, or the same, and neither is exact.
			if k > 1 && nat.Bits(a) > 1 && nat.Bits(nat.Add(a, nat.Of(1))) <= maxBits {
				got, is, err = Root(moved(a, -1), k)
				told(t, fmt.Sprintf("P4.4: Root below %s to the power %d", short(base), k), got, is, err, moved(base, -1), false)
				got, is, err = Root(moved(a, 1), k)
				told(t, fmt.Sprintf("P4.4: Root above %s to the power %d", short(base), k), got, is, err, nat.Bare(base), false)
			}
		}
	}
}

func TestOneMoreHasAPowerAbove(t *testing.T) {
	for _, a := range append(samples(), ofBits(8192), two(8191), two(8190)) {
		for k := 1; k < 70; k++ {
			root, is, err := Root(a, k)
			if err != api.OK {
				t.Fatalf("P4.1: Root of %s and %d: %d", short(a), k, err)
			}
			power, _ := prod.Pow(root, k)
			more, _ := prod.Pow(nat.Add(root, nat.Of(1)), k)
			if nat.Cmp(more, a) <= 0 || nat.Cmp(power, a) > 0 || is != (nat.Cmp(power, a) == 0) {
				t.Errorf("P4.4: Root of %s and %d: %s, %v", short(a), k, short(root), is)
			}
		}
	}
}

// calls are all of the package that tell a list, with it.
func calls(a []uint64, k int) map[string][]uint64 {
	first, _, _ := Root(a, 1)
	root, _, _ := Root(a, k)
	none, _, _ := Halves(a, 0)
	halves, _, _ := Halves(a, k)
	Order(a, k)
	return map[string][]uint64{"Root and 1": first, "Root": root, "Halves and 0": none, "Halves": halves}
}

// roomy is a with spare room behind it, which no call may write to or hand out.
func roomy(a []uint64) (list, all []uint64) {
	all = append(slices.Clone(a), 77, 77)
	return all[:len(a)], all
}

// spoil writes over all that a list reaches.
func spoil(list []uint64) {
	list = list[:cap(list)]
	for i := range list {
		list[i] ^= full
	}
}

func TestWhatIsHandedInStays(t *testing.T) {
	for _, a := range samples() {
		for k := range 5 {
			list, all := roomy(a)
			kept := slices.Clone(all)
			for what, answer := range calls(list, k) {
				spoil(answer)
				if !slices.Equal(all, kept) {
					t.Fatalf("R4: %s of %v and %d changes or shares what is handed in", what, a, k)
				}
			}
		}
	}
}

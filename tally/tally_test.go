package tally_test

import (
	"bytes"
	"encoding/binary"
	"math"
	"math/big"
	"math/bits"
	"testing"

	"herdsman/api"
	"herdsman/tally"
)

const top = math.MaxUint64

// edges are counts about which something may turn: the least, the greatest, and those beside the kinds' bounds.
var edges = []uint64{
	0, 1, 2, 5, 127, 128, 255, 256, 257, 1<<16 - 1, 1 << 16, 1<<31 - 1, 1 << 31, 1<<32 - 1, 1 << 32, 1<<32 + 1,
	1<<53 + 1, 1<<62 - 1, 1 << 62, 1<<63 - 1, 1 << 63, 1<<63 + 1, 0x0102030405060708, 0xfefdfcfbfaf9f8f7,
	top - 256, top - 6, top - 5, top - 2, top - 1, top,
}

// row of counts, always the same one, of all lengths in bits.
type row struct{ last uint64 }

func (r *row) next() uint64 {
	r.last = r.last*6364136223846793005 + 1442695040888963407
	mixed := r.last ^ r.last>>29
	return mixed >> (r.last >> 58)
}

func (r *row) stats() api.Stats {
	var l [6]uint64
	for i := range l {
		l[i] = r.next()
	}
	return stats(l)
}

// stats of six counts, in the order that the struct has.
func stats(l [6]uint64) api.Stats {
	return api.Stats{Rebuilds: l[0], Searches: l[1], Builds: l[2], Hits: l[3], Stale: l[4], Evicts: l[5]}
}

// list is the other way round.
func list(s api.Stats) [6]uint64 {
	return [6]uint64{s.Rebuilds, s.Searches, s.Builds, s.Hits, s.Stale, s.Evicts}
}

// sum of two counts as whole numbers, cut at the greatest count.
func sum(a, b uint64) uint64 {
	x := new(big.Int).SetUint64(a)
	x.Add(x, new(big.Int).SetUint64(b))
	if !x.IsUint64() {
		return top
	}
	return x.Uint64()
}

// 6.1

func TestAddExample(t *testing.T) {
	if got := tally.Add(top, 5); got != top {
		t.Error(got)
	}
}

func TestAddTold(t *testing.T) {
	for _, x := range []struct{ a, b, want uint64 }{
		{0, 0, 0}, {0, 1, 1}, {2, 3, 5}, {255, 1, 256}, {1<<32 - 1, 1, 1 << 32}, {1<<63 - 1, 1, 1 << 63},
		{1 << 63, 1<<63 - 1, top}, {1 << 63, 1 << 63, top}, {1 << 63, 1<<63 - 2, top - 1},
		{top - 1, 0, top - 1}, {top - 1, 1, top}, {top - 1, 2, top}, {top, 0, top}, {top, 1, top}, {top, top, top},
	} {
		if got := tally.Add(x.a, x.b); got != x.want {
			t.Errorf("Add(%d, %d): %d; not %d", x.a, x.b, got, x.want)
		}
		if got := tally.Add(x.b, x.a); got != x.want {
			t.Errorf("Add(%d, %d): %d; not %d", x.b, x.a, got, x.want)
		}
	}
}

func TestAddIsTheSum(t *testing.T) {
	for _, a := range edges {
		for _, b := range edges {
			if got, want := tally.Add(a, b), sum(a, b); got != want {
				t.Errorf("Add(%d, %d): %d; not %d", a, b, got, want)
			}
		}
		// The bound itself, and both sides of it.
		for _, b := range []uint64{top - a - 1, top - a, top - a + 1} {
			if got, want := tally.Add(a, b), sum(a, b); got != want {
				t.Errorf("Add(%d, %d): %d; not %d", a, b, got, want)
			}
		}
	}
	r := row{1}
	for range 20000 {
		a, b := r.next(), r.next()
		want, carry := bits.Add64(a, b, 0)
		if carry == 1 {
			want = top
		}
		if got := tally.Add(a, b); got != want {
			t.Fatalf("Add(%d, %d): %d; not %d", a, b, got, want)
		}
	}
}

func TestSumIsCountByCount(t *testing.T) {
	check := func(a, b api.Stats) {
		t.Helper()
		la, lb := list(a), list(b)
		var want [6]uint64
		for i := range want {
			want[i] = sum(la[i], lb[i])
		}
		if got := tally.Sum(a, b); got != stats(want) {
			t.Fatalf("Sum(%v, %v): %v; not %v", a, b, got, want)
		}
	}
	check(api.Stats{}, api.Stats{})
	check(stats([6]uint64{1, 2, 3, 4, 5, 6}), stats([6]uint64{10, 20, 30, 40, 50, 60}))
	for i := range 6 {
		for _, count := range edges {
			// One count at its edge says nothing of the five others.
			var l, m [6]uint64
			l[i], m[i] = count, top-5
			check(stats(l), stats([6]uint64{1, 2, 3, 4, 5, 6}))
			check(stats([6]uint64{1, 2, 3, 4, 5, 6}), stats(l))
			check(stats(l), stats(m))
		}
	}
	r := row{2}
	for range 5000 {
		check(r.stats(), r.stats())
	}
}

func TestBelowTold(t *testing.T) {
	five := stats([6]uint64{5, 5, 5, 5, 5, 5})
	full := stats([6]uint64{top, top, top, top, top, top})
	for _, x := range []struct {
		a, b api.Stats
		want bool
	}{
		{api.Stats{}, api.Stats{}, true}, {api.Stats{}, five, true}, {five, five, true}, {five, full, true},
		{full, full, true}, {five, api.Stats{}, false}, {full, five, false}, {full, api.Stats{}, false},
	} {
		if got := tally.Below(x.a, x.b); got != x.want {
			t.Errorf("Below(%v, %v): %v", x.a, x.b, got)
		}
	}
}

func TestBelowAsksEachCount(t *testing.T) {
	for i := range 6 {
		for _, a := range edges {
			for _, b := range edges {
				// Five that are far below do not make up for one that is above; nor do five that are equal.
				low, high := [6]uint64{}, [6]uint64{top, top, top, top, top, top}
				low[i], high[i] = a, b
				if got := tally.Below(stats(low), stats(high)); got != (a <= b) {
					t.Fatalf("Below with %d of %d, %d: %v", i, a, b, got)
				}
				like, same := [6]uint64{7, 7, 7, 7, 7, 7}, [6]uint64{7, 7, 7, 7, 7, 7}
				like[i], same[i] = a, b
				if got := tally.Below(stats(like), stats(same)); got != (a <= b) {
					t.Fatalf("Below beside equal ones with %d of %d, %d: %v", i, a, b, got)
				}
			}
		}
	}
}

func TestBelowOfTwoThatDiffer(t *testing.T) {
	// One is above in one count, the other in another: neither is below.
	for i := range 6 {
		for j := range 6 {
			if i == j {
				continue
			}
			var a, b [6]uint64
			a[i], b[j] = 1, top
			if tally.Below(stats(a), stats(b)) || tally.Below(stats(b), stats(a)) {
				t.Errorf("Below with %d and %d", i, j)
			}
		}
	}
}

// 6.2

func TestBytesTold(t *testing.T) {
	got := tally.Bytes(api.Stats{
		Rebuilds: 1, Searches: 0x0203, Builds: top, Hits: 0, Stale: 1 << 63, Evicts: 0x0807060504030201,
	})
	want := []byte{
		1, 0, 0, 0, 0, 0, 0, 0,
		3, 2, 0, 0, 0, 0, 0, 0,
		255, 255, 255, 255, 255, 255, 255, 255,
		0, 0, 0, 0, 0, 0, 0, 0,
		0, 0, 0, 0, 0, 0, 0, 128,
		1, 2, 3, 4, 5, 6, 7, 8,
	}
	if !bytes.Equal(got, want) {
		t.Errorf("%v; not %v", got, want)
	}
	if got := tally.Bytes(api.Stats{}); !bytes.Equal(got, make([]byte, 48)) {
		t.Errorf("of none: %v", got)
	}
}

func TestBytesCountByCount(t *testing.T) {
	check := func(l [6]uint64) {
		t.Helper()
		var want []byte
		for _, count := range l {
			want = binary.LittleEndian.AppendUint64(want, count)
		}
		if got := tally.Bytes(stats(l)); !bytes.Equal(got, want) {
			t.Fatalf("Bytes(%v): %v; not %v", l, got, want)
		}
	}
	for i := range 6 {
		for _, count := range edges {
			var l [6]uint64
			l[i] = count
			check(l)
		}
		for bit := range 64 {
			var l [6]uint64
			l[i] = 1 << bit
			check(l)
		}
	}
	r := row{3}
	for range 2000 {
		check(list(r.stats()))
	}
}

func TestBytesAreTheCallersOwn(t *testing.T) {
	s := stats([6]uint64{1, 2, 3, 4, 5, 6})
	first, second := tally.Bytes(s), tally.Bytes(s)
	for i := range first {
		first[i] = 99
	}
	if !bytes.Equal(second, tally.Bytes(s)) || second[0] != 1 {
		t.Error("two answers share their memory")
	}
}

// 6.3, T4

func TestCountsNeverFall(t *testing.T) {
	for start := range uint64(8) {
		r := row{start}
		var now api.Stats
		exact := [6]*big.Int{}
		for i := range exact {
			exact[i] = new(big.Int)
		}
		for range 300 {
			more := r.stats()
			next := tally.Sum(now, more)
			if !tally.Below(now, next) || !tally.Below(more, next) {
				t.Fatalf("%v and %v: %v", now, more, next)
			}
			l, told := list(more), list(next)
			for i, x := range exact {
				x.Add(x, new(big.Int).SetUint64(l[i]))
				want := uint64(top)
				if x.IsUint64() {
					want = x.Uint64()
				}
				if told[i] != want {
					t.Fatalf("count %d: %d; not %d", i, told[i], want)
				}
			}
			now = next
		}
	}
}

func TestTheGreatestCountStays(t *testing.T) {
	full := stats([6]uint64{top, top, top, top, top, top})
	for _, count := range edges {
		more := stats([6]uint64{count, count, count, count, count, count})
		if got := tally.Sum(full, more); got != full {
			t.Errorf("%v", got)
		}
		if got := tally.Sum(more, full); got != full {
			t.Errorf("%v", got)
		}
	}
}

func TestTheOrderOfAddingIsNotSeen(t *testing.T) {
	r := row{9}
	for range 2000 {
		a, b, c := r.stats(), r.stats(), r.stats()
		if tally.Sum(tally.Sum(a, b), c) != tally.Sum(a, tally.Sum(b, c)) || tally.Sum(a, b) != tally.Sum(b, a) {
			t.Fatalf("%v, %v, %v", a, b, c)
		}
	}
}

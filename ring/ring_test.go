package ring_test

import (
	"math"
	"slices"
	"testing"

	"herdsman/api"
	"herdsman/ring"
)

// entry is an item and the key under which it waits.
type entry struct{ key, item int }

// plain is a ring as a list in the order in which its items come out.
type plain struct {
	at   int
	list []entry
}

func (p *plain) put(key, item int) bool {
	if key < p.at || key > p.at+api.Buckets-1 {
		return false
	}
	place := 0
	for place < len(p.list) && p.list[place].key <= key {
		place++
	}
	p.list = slices.Insert(p.list, place, entry{key, item})
	return true
}

func (p *plain) pop() (int, int, bool) {
	if len(p.list) == 0 {
		return 0, 0, false
	}
	first := p.list[0]
	p.list = p.list[1:]
	p.at = first.key
	return first.key, first.item, true
}

func (p *plain) jump(key int) bool {
	if len(p.list) > 0 || key < p.at || key > api.Inf {
		return false
	}
	p.at = key
	return true
}

// row of numbers, always the same one.
type row struct{ last uint64 }

func (r *row) below(n int) int {
	r.last = r.last*6364136223846793005 + 1442695040888963407
	return int(r.last >> 33 % uint64(n))
}

// made is a ring that must be there.
func made(t *testing.T, from int) *ring.Ring {
	t.Helper()
	r := ring.New(from)
	if r == nil {
		t.Fatalf("New(%d): nil", from)
	}
	return r
}

// holds asks the ring for where it is, and how many wait.
func holds(t *testing.T, r *ring.Ring, at, size int) {
	t.Helper()
	if r.At() != at || r.Len() != size {
		t.Fatalf("At %d, Len %d; not %d, %d", r.At(), r.Len(), at, size)
	}
}

// pops asks the ring for these, one by one.
func pops(t *testing.T, r *ring.Ring, want ...entry) {
	t.Helper()
	for _, w := range want {
		left := r.Len() - 1
		if key, item, ok := r.Pop(); key != w.key || item != w.item || !ok {
			t.Fatalf("Pop: %d, %d, %v; not %v", key, item, ok, w)
		}
		holds(t, r, w.key, left)
	}
}

// empty asks for nothing, which moves nothing.
func empty(t *testing.T, r *ring.Ring) {
	t.Helper()
	at := r.At()
	for range 2 {
		if key, item, ok := r.Pop(); key != 0 || item != 0 || ok {
			t.Fatalf("Pop of none: %d, %d, %v", key, item, ok)
		}
		holds(t, r, at, 0)
	}
}

// 7.1

func TestExample(t *testing.T) {
	r := made(t, 10)
	if !r.Put(12, 1) || !r.Put(10, 2) || !r.Put(12, 3) {
		t.Fatal("Put")
	}
	if r.Put(9, 4) {
		t.Error("Put(9, 4)")
	}
	pops(t, r, entry{10, 2}, entry{12, 1}, entry{12, 3})
	empty(t, r)
}

func TestExampleOfTheWhole(t *testing.T) {
	for key := -300; key <= 600; key++ {
		r := made(t, 10)
		if got, want := r.Put(key, 1), key >= 10 && key <= 265; got != want {
			t.Errorf("Put(%d): %v", key, got)
		}
	}
}

func TestNew(t *testing.T) {
	for _, from := range []int{0, 1, 255, 256, 257, 1 << 20, api.MaxKey, math.MaxUint32, api.Inf - 1, api.Inf} {
		r := made(t, from)
		holds(t, r, from, 0)
		empty(t, r)
	}
	for _, from := range []int{-1, -2, -256, math.MinInt32, math.MinInt, api.Inf + 1, 2 * api.Inf, math.MaxInt - 1, math.MaxInt} {
		if r := ring.New(from); r != nil {
			t.Errorf("New(%d): %v", from, r.At())
		}
	}
}

func TestPutTakesItsKeysOnly(t *testing.T) {
	for _, from := range []int{0, 1, 7, 255, 256, 1000, math.MaxUint32, api.Inf - 255, api.Inf} {
		r := made(t, from)
		if !r.Put(from+255, 3) {
			t.Fatalf("Put at the end of %d", from)
		}
		for _, key := range []int{
			from - 1, from - 255, from - 256, from - 257, from + 256, from + 257, from + 511, from + 512,
			-1, math.MinInt, math.MinInt + from, math.MinInt + from + 1, math.MinInt + from + 255, math.MaxInt,
		} {
			if r.Put(key, 9) {
				t.Errorf("New(%d), Put(%d)", from, key)
			}
			holds(t, r, from, 1)
		}
		if !r.Put(from, 4) {
			t.Fatalf("Put at the beginning of %d", from)
		}
		holds(t, r, from, 2)
		pops(t, r, entry{from, 4}, entry{from + 255, 3})
		empty(t, r)
	}
}

func TestPutLeavesAt(t *testing.T) {
	r := made(t, 100)
	for i, key := range []int{300, 200, 355, 101} {
		if !r.Put(key, i) {
			t.Fatal(key)
		}
		holds(t, r, 100, i+1)
	}
	if !r.Put(100, 4) {
		t.Fatal("what is below all that wait, but not below At")
	}
	pops(t, r, entry{100, 4}, entry{101, 3}, entry{200, 1}, entry{300, 0}, entry{355, 2})
}

func TestPutAsAtGoesOn(t *testing.T) {
	r := made(t, 0)
	r.Put(5, 1)
	r.Put(250, 2)
	pops(t, r, entry{5, 1})
	if r.Put(4, 3) || r.Put(261, 3) || !r.Put(260, 4) || !r.Put(5, 5) || !r.Put(256, 6) {
		t.Fatal("keys behind a Pop")
	}
	pops(t, r, entry{5, 5}, entry{250, 2}, entry{256, 6}, entry{260, 4})
	empty(t, r)
	// At stays where the last one went.
	if r.Put(259, 7) || r.Put(516, 7) || !r.Put(515, 8) || !r.Put(260, 9) {
		t.Fatal("keys behind the last Pop")
	}
	pops(t, r, entry{260, 9}, entry{515, 8})
}

func TestEveryKeyAtEveryPlaceOfTheCircle(t *testing.T) {
	for from := range 2*api.Buckets + 1 {
		r := made(t, from)
		// Going by 77, which shares no divisor with 256, comes by each key once.
		for i := range api.Buckets {
			if key := from + i*77%api.Buckets; !r.Put(key, -key) {
				t.Fatalf("New(%d), Put(%d)", from, key)
			}
		}
		holds(t, r, from, api.Buckets)
		for key := from; key < from+api.Buckets; key++ {
			pops(t, r, entry{key, -key})
		}
		empty(t, r)
	}
}

func TestItemsAreAnyNumbers(t *testing.T) {
	items := []int{0, 0, -1, math.MinInt, math.MaxInt, 7, 7, 0, 1 << 40, -7}
	r := made(t, 3)
	var want []entry
	for _, item := range items {
		if !r.Put(3, item) {
			t.Fatal(item)
		}
		want = append(want, entry{3, item})
	}
	pops(t, r, want...)
	empty(t, r)
}

func TestJump(t *testing.T) {
	r := made(t, 20)
	for _, key := range []int{19, 0, -1, math.MinInt, api.Inf + 1, math.MaxInt} {
		if r.Jump(key) {
			t.Errorf("Jump(%d)", key)
		}
		holds(t, r, 20, 0)
	}
	for _, key := range []int{20, 21, 21, 276, 277, 1 << 33, api.Inf - 1, api.Inf, api.Inf} {
		if !r.Jump(key) {
			t.Errorf("Jump(%d)", key)
		}
		holds(t, r, key, 0)
		if r.Jump(key-1) || r.Put(key-1, 0) || r.Put(key+256, 0) {
			t.Errorf("what is no key behind Jump(%d)", key)
		}
		holds(t, r, key, 0)
	}
	if !r.Put(api.Inf+255, 1) || !r.Put(api.Inf, 2) {
		t.Fatal("Put behind a Jump")
	}
	pops(t, r, entry{api.Inf, 2}, entry{api.Inf + 255, 1})
}

func TestJumpWaitsForAllToGo(t *testing.T) {
	r := made(t, 20)
	r.Put(30, 1)
	r.Put(40, 2)
	for _, key := range []int{19, 20, 25, 30, 40, 41, 1000} {
		if r.Jump(key) {
			t.Errorf("Jump(%d) where two wait", key)
		}
		holds(t, r, 20, 2)
	}
	pops(t, r, entry{30, 1})
	if r.Jump(30) || r.Jump(40) || r.Jump(1000) {
		t.Error("Jump where one waits")
	}
	pops(t, r, entry{40, 2})
	if r.Jump(39) || !r.Jump(40) || !r.Jump(1000) {
		t.Error("Jump where none waits")
	}
	holds(t, r, 1000, 0)
}

func TestNoJumpPastInf(t *testing.T) {
	r := made(t, api.Inf)
	r.Put(api.Inf+1, 1)
	pops(t, r, entry{api.Inf + 1, 1})
	for _, key := range []int{api.Inf, api.Inf + 1, api.Inf + 2} {
		if r.Jump(key) {
			t.Errorf("Jump(%d)", key)
		}
		holds(t, r, api.Inf+1, 0)
	}
	if r.Put(api.Inf, 2) || r.Put(api.Inf+257, 2) || !r.Put(api.Inf+256, 2) {
		t.Error("Put past Inf")
	}
	pops(t, r, entry{api.Inf + 256, 2})
}

func TestOfNil(t *testing.T) {
	var r *ring.Ring
	for _, key := range []int{math.MinInt, -1, 0, 1, 255, 256, api.Inf, math.MaxInt} {
		if r.Put(key, 1) || r.Jump(key) {
			t.Errorf("nil took %d", key)
		}
	}
	holds(t, r, 0, 0)
	empty(t, r)
}

func TestRingsAreApart(t *testing.T) {
	a, b := made(t, 5), made(t, 5)
	a.Put(6, 1)
	holds(t, b, 5, 0)
	empty(t, b)
	b.Put(6, 2)
	b.Put(7, 3)
	pops(t, a, entry{6, 1})
	holds(t, b, 5, 2)
	pops(t, b, entry{6, 2}, entry{7, 3})
	empty(t, a)
}

// 7.2

func TestItemsOfOneKeyStayInOrder(t *testing.T) {
	r := made(t, 0)
	in, out := 0, 0
	// Two go in for one that goes out, till none goes in any more.
	for in < 10000 {
		for range 2 {
			if !r.Put(200, in) {
				t.Fatal(in)
			}
			in++
		}
		pops(t, r, entry{200, out})
		out++
	}
	for out < in {
		pops(t, r, entry{200, out})
		out++
	}
	empty(t, r)
}

func TestOneThatAlwaysWaits(t *testing.T) {
	r := made(t, 9)
	r.Put(9, 0)
	for i := range 100000 {
		if !r.Put(9, i+1) {
			t.Fatal(i)
		}
		if key, item, ok := r.Pop(); key != 9 || item != i || !ok || r.Len() != 1 {
			t.Fatal(key, item, ok)
		}
	}
}

func TestBucketsAreUsedAgain(t *testing.T) {
	r := made(t, 0)
	r.Put(0, 0)
	for i := range 3000 {
		// The farthest key there is, each time: it goes round the circle many times, by all buckets.
		key := i * 255
		pops(t, r, entry{key, i})
		if !r.Put(key+255, i+1) || r.Put(key+256, -1) {
			t.Fatal(key)
		}
	}
	pops(t, r, entry{3000 * 255, 3000})
	empty(t, r)
}

func TestAgainstAPlainList(t *testing.T) {
	for start := range 60 {
		numbers := row{uint64(start)}
		from := []int{0, 1, 250, 256, 99999, api.Inf - 2000, api.Inf}[start%7]
		r, p := made(t, from), &plain{at: from}
		// Some rows put more than they pop, some less; some under few keys, some past both ends.
		often, wide := 3+start%5, []int{3, 40, 256, 270}[start%4]
		last := from
		for step := range 1500 {
			switch kind := numbers.below(10); {
			case kind == 9:
				key := p.at - 2 + numbers.below(600)
				if got, want := r.Jump(key), p.jump(key); got != want {
					t.Fatalf("start %d, step %d: Jump(%d): %v", start, step, key, got)
				}
			case kind < often:
				key := p.at - 1 + numbers.below(wide)
				if got, want := r.Put(key, step), p.put(key, step); got != want {
					t.Fatalf("start %d, step %d: Put(%d): %v", start, step, key, got)
				}
			default:
				key, item, ok := r.Pop()
				wantKey, wantItem, wantOk := p.pop()
				if key != wantKey || item != wantItem || ok != wantOk || ok && key < last {
					t.Fatalf("start %d, step %d: Pop: %d, %d, %v", start, step, key, item, ok)
				}
				last = max(last, key)
			}
			holds(t, r, p.at, len(p.list))
		}
		for len(p.list) > 0 {
			key, item, _ := p.pop()
			pops(t, r, entry{key, item})
		}
		empty(t, r)
	}
}

// T1

// beside are the cells at the sides of a cell of a square.
func beside(side, cell int) []int {
	var l []int
	if cell >= side {
		l = append(l, cell-side)
	}
	if cell%side < side-1 {
		l = append(l, cell+1)
	}
	if cell < side*(side-1) {
		l = append(l, cell+side)
	}
	if cell%side > 0 {
		l = append(l, cell-1)
	}
	return l
}

// byRing is how far each cell is from the goal, in one search: a way costs what it enters, at most 254 a cell.
func byRing(t *testing.T, side, goal int, costs []byte) []int {
	t.Helper()
	far := slices.Repeat([]int{api.Inf}, len(costs))
	r := made(t, 0)
	far[goal] = 0
	r.Put(0, goal)
	for {
		key, cell, ok := r.Pop()
		if !ok {
			return far
		}
		if far[cell] < key {
			continue
		}
		for _, next := range beside(side, cell) {
			if sum := key + int(costs[cell]); costs[next] != api.Wall && sum < far[next] {
				far[next] = sum
				if !r.Put(sum, next) {
					t.Fatalf("Put(%d) at %d", sum, r.At())
				}
			}
		}
	}
}

// byRounds goes over all cells till nothing lessens.
func byRounds(side, goal int, costs []byte) []int {
	far := slices.Repeat([]int{api.Inf}, len(costs))
	far[goal] = 0
	for changed := true; changed; {
		changed = false
		for cell := range costs {
			for _, next := range beside(side, cell) {
				if sum := far[next] + int(costs[next]); costs[cell] != api.Wall && costs[next] != api.Wall && sum < far[cell] {
					far[cell] = sum
					changed = true
				}
			}
		}
	}
	return far
}

func TestASearchByRingFindsTheLeast(t *testing.T) {
	const side = 20
	for start := range 40 {
		numbers := row{uint64(start)}
		costs := make([]byte, side*side)
		for i := range costs {
			costs[i] = byte(1 + numbers.below(254))
			if numbers.below(10) < start%5 {
				costs[i] = api.Wall
			}
		}
		goal := numbers.below(len(costs))
		costs[goal] = []byte{1, 100, 254}[start%3]
		if got, want := byRing(t, side, goal, costs), byRounds(side, goal, costs); !slices.Equal(got, want) {
			t.Fatalf("start %d: %v; not %v", start, got, want)
		}
	}
}

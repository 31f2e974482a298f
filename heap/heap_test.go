package heap_test

import (
	"cmp"
	"math"
	"slices"
	"testing"

	"herdsman/api"
	"herdsman/heap"
	"herdsman/where"
)

// entry is an item and the key that it waits with.
type entry struct{ key, item int }

// order of two entries: by keys, then by items.
func order(a, b entry) int {
	return cmp.Or(cmp.Compare(a.key, b.key), cmp.Compare(a.item, b.item))
}

// sorted is the list in the order in which it must come out.
func sorted(l []entry) []entry {
	l = slices.Clone(l)
	slices.SortFunc(l, order)
	return l
}

// plain is a heap as a list in the order in which its items come out.
type plain struct{ list []entry }

func (p *plain) push(e entry) {
	place := 0
	for place < len(p.list) && order(p.list[place], e) < 0 {
		place++
	}
	p.list = slices.Insert(p.list, place, e)
}

func (p *plain) pop() (entry, bool) {
	if len(p.list) == 0 {
		return entry{}, false
	}
	first := p.list[0]
	p.list = slices.Delete(p.list, 0, 1)
	return first, true
}

// row of numbers, always the same one.
type row struct{ last uint64 }

func (r *row) below(n int) int {
	r.last = r.last*6364136223846793005 + 1442695040888963407
	return int(r.last >> 33 % uint64(n))
}

// of is one of these.
func (r *row) of(l ...int) int { return l[r.below(len(l))] }

// number is any one: a small one that comes often, or one of the ends.
func (r *row) number() int {
	if r.below(8) == 0 {
		return r.of(odd()...)
	}
	return r.below(7) - 3
}

// entries are n of these.
func (r *row) entries(n int) []entry {
	l := make([]entry, n)
	for i := range l {
		l[i] = entry{r.number(), r.number()}
	}
	return l
}

// odd numbers, whose differences wrap.
func odd() []int {
	return []int{math.MinInt, math.MinInt + 1, -1 << 62, -1 << 32, -1, 0, 1, 1 << 32, api.Inf, 1 << 62, math.MaxInt - 1, math.MaxInt}
}

// filled is a heap with these, pushed in their order.
func filled(l []entry) *heap.Heap {
	h := heap.New()
	for _, e := range l {
		h.Push(e.key, e.item)
	}
	return h
}

// tops asks the heap twice for the first one, which stays.
func tops(t *testing.T, h *heap.Heap, want entry, size int) {
	t.Helper()
	for range 2 {
		if key, item, ok := h.Top(); key != want.key || item != want.item || !ok || h.Len() != size {
			t.Fatalf("Top: %d, %d, %v, Len %d; not %v, %d", key, item, ok, h.Len(), want, size)
		}
	}
}

// pops asks the heap for the first one, which goes.
func pops(t *testing.T, h *heap.Heap, want entry, left int) {
	t.Helper()
	if key, item, ok := h.Pop(); key != want.key || item != want.item || !ok || h.Len() != left {
		t.Fatalf("Pop: %d, %d, %v, Len %d; not %v, %d", key, item, ok, h.Len(), want, left)
	}
}

// none asks a heap in which nothing waits.
func none(t *testing.T, h *heap.Heap) {
	t.Helper()
	for range 2 {
		if key, item, ok := h.Top(); key != 0 || item != 0 || ok {
			t.Fatalf("Top of none: %d, %d, %v", key, item, ok)
		}
		if key, item, ok := h.Pop(); key != 0 || item != 0 || ok {
			t.Fatalf("Pop of none: %d, %d, %v", key, item, ok)
		}
		if h.Len() != 0 {
			t.Fatalf("Len of none: %d", h.Len())
		}
	}
}

// comesOut asks for all of these in their order, and for no more.
func comesOut(t *testing.T, h *heap.Heap, want []entry) {
	t.Helper()
	for i, e := range want {
		tops(t, h, e, len(want)-i)
		pops(t, h, e, len(want)-i-1)
	}
	none(t, h)
}

// 13.1

func TestExample(t *testing.T) {
	h := heap.New()
	h.Push(3, 1)
	h.Push(2, 9)
	h.Push(2, 4)
	tops(t, h, entry{2, 4}, 3)
	pops(t, h, entry{2, 4}, 2)
	comesOut(t, h, []entry{{2, 9}, {3, 1}})
}

func TestNew(t *testing.T) {
	h := heap.New()
	if h == nil {
		t.Fatal("nil")
	}
	none(t, h)
	h.Push(0, 0)
	tops(t, h, entry{0, 0}, 1)
	none(t, heap.New())
	comesOut(t, h, []entry{{0, 0}})
}

func TestTheLeastItemOfTheLeastKey(t *testing.T) {
	for _, key := range odd() {
		for _, item := range odd() {
			for _, other := range odd() {
				h := filled([]entry{{key, item}, {key, other}})
				comesOut(t, h, []entry{{key, min(item, other)}, {key, max(item, other)}})
			}
		}
	}
}

func TestAKeyIsMoreThanAnItem(t *testing.T) {
	for _, key := range odd() {
		for _, other := range odd() {
			if key < other {
				want := []entry{{key, math.MaxInt}, {other, math.MinInt}}
				comesOut(t, filled(want), want)
				comesOut(t, filled([]entry{want[1], want[0]}), want)
			}
		}
	}
}

func TestTheSameOnesTwice(t *testing.T) {
	for _, e := range []entry{{0, 0}, {7, -7}, {math.MinInt, math.MinInt}, {math.MaxInt, math.MaxInt}} {
		l := slices.Repeat([]entry{e}, 20)
		comesOut(t, filled(l), l)
	}
}

func TestLenCountsEachOne(t *testing.T) {
	h := heap.New()
	for i := range 1000 {
		if h.Len() != i {
			t.Fatal(h.Len(), i)
		}
		h.Push(i%10, i%3)
	}
	for left := 999; left >= 0; left-- {
		if _, _, ok := h.Pop(); !ok || h.Len() != left {
			t.Fatal(h.Len(), left)
		}
	}
	none(t, h)
}

func TestTopSeesWhatIsPushed(t *testing.T) {
	h := heap.New()
	for i, e := range []entry{{5, 5}, {6, 0}, {5, 6}, {5, 4}, {4, 9}, {4, 10}, {3, 9}} {
		h.Push(e.key, e.item)
		tops(t, h, []entry{{5, 5}, {5, 5}, {5, 5}, {5, 4}, {4, 9}, {4, 9}, {3, 9}}[i], i+1)
	}
}

func TestNil(t *testing.T) {
	var h *heap.Heap
	none(t, h)
	h.Push(1, 2)
	none(t, h)
}

func TestTheZeroOneIsEmpty(t *testing.T) {
	var h heap.Heap
	none(t, &h)
	h.Push(1, 2)
	comesOut(t, &h, []entry{{1, 2}})
}

func TestHeapsShareNothing(t *testing.T) {
	a, b := heap.New(), heap.New()
	for i := range 50 {
		a.Push(i, 1)
		b.Push(-i, 2)
	}
	for i := range 50 {
		pops(t, a, entry{i, 1}, 49-i)
		tops(t, b, entry{-49 + i, 2}, 50-i)
		pops(t, b, entry{-49 + i, 2}, 49-i)
	}
}

func TestCallsInAnyOrder(t *testing.T) {
	for start := range 200 {
		numbers := &row{uint64(start)}
		h, p := heap.New(), &plain{}
		pushes := 1 + numbers.below(9)
		for range 300 {
			if numbers.below(10) < pushes {
				e := entry{numbers.number(), numbers.number()}
				h.Push(e.key, e.item)
				p.push(e)
			} else if e, ok := p.pop(); ok {
				pops(t, h, e, len(p.list))
			} else {
				none(t, h)
			}
			if len(p.list) > 0 {
				tops(t, h, p.list[0], len(p.list))
			}
		}
		comesOut(t, h, p.list)
	}
}

// 13.2

func TestAllOrdersOfAFew(t *testing.T) {
	// Of seven places, every tree of three levels is met; two of them are alike.
	l := []entry{{1, 1}, {1, 2}, {2, -1}, {2, 3}, {2, 3}, {3, 0}, {4, -9}}
	eachOrder(l, len(l), func(l []entry) { comesOut(t, filled(l), sorted(l)) })
}

// eachOrder calls see with all orders of the first n.
func eachOrder(l []entry, n int, see func(l []entry)) {
	if n == 0 {
		see(l)
		return
	}
	for i := range n {
		l[i], l[n-1] = l[n-1], l[i]
		eachOrder(l, n-1, see)
		l[i], l[n-1] = l[n-1], l[i]
	}
}

func TestAllThatWentInComesOutSorted(t *testing.T) {
	numbers := &row{1}
	for size := range 300 {
		l := numbers.entries(size)
		comesOut(t, filled(l), sorted(l))
	}
}

func TestRisingAndFalling(t *testing.T) {
	var up []entry
	for i := range 2000 {
		up = append(up, entry{i / 7, i})
	}
	down := slices.Clone(up)
	slices.Reverse(down)
	comesOut(t, filled(up), up)
	comesOut(t, filled(down), up)
	comesOut(t, filled(append(down, up...)), sorted(append(up, up...)))
}

func TestManyInShortTime(t *testing.T) {
	// What went over the whole list at each call would not end in time.
	const size = 300000
	numbers, h := &row{2}, heap.New()
	l := make([]entry, size)
	for i := range l {
		l[i] = entry{numbers.below(size), numbers.below(10)}
		h.Push(l[i].key, l[i].item)
	}
	for i, e := range sorted(l) {
		pops(t, h, e, size-i-1)
	}
	none(t, h)
}

// T1

// search is how far the goal is from each cell: what a cell comes out with first is its distance, which holds only
// if the least one always comes first.
func search(m api.Map, goal int) []int {
	far := slices.Repeat([]int{api.Inf}, len(m.C))
	h := heap.New()
	if m.C[goal] != api.Wall {
		h.Push(0, goal)
	}
	for {
		key, cell, ok := h.Pop()
		if !ok {
			return far
		}
		if far[cell] < api.Inf {
			continue
		}
		far[cell] = key
		for side := api.North; side <= api.West; side++ {
			n := where.Step(m.W, m.H, cell, side)
			if n >= 0 && m.C[n] != api.Wall {
				h.Push(key+int(m.C[cell]), n)
			}
		}
	}
}

// byRounds is the same by going over all cells till nothing lessens.
func byRounds(m api.Map, goal int) []int {
	far := slices.Repeat([]int{api.Inf}, len(m.C))
	if m.C[goal] == api.Wall {
		return far
	}
	far[goal] = 0
	for changed := true; changed; {
		changed = false
		for cell, cost := range m.C {
			if cost == api.Wall {
				continue
			}
			for side := api.North; side <= api.West; side++ {
				n := where.Step(m.W, m.H, cell, side)
				if n >= 0 && m.C[n] != api.Wall && far[n]+int(m.C[n]) < far[cell] {
					far[cell], changed = far[n]+int(m.C[n]), true
				}
			}
		}
	}
	return far
}

func TestTheLeastOfAllWays(t *testing.T) {
	numbers := &row{3}
	for _, size := range [][2]int{{1, 1}, {1, 20}, {20, 1}, {5, 4}, {17, 16}, {33, 20}, {48, 48}} {
		for _, costs := range [][]int{{1}, {1, 1, api.Wall}, {1, 2, 9, 254, api.Wall}, {254, 253, 3, 1}} {
			m := api.Map{W: size[0], H: size[1], C: make([]byte, size[0]*size[1])}
			for cell := range m.C {
				m.C[cell] = byte(numbers.of(costs...))
			}
			for range 3 {
				goal := numbers.below(len(m.C))
				if got, want := search(m, goal), byRounds(m, goal); !slices.Equal(got, want) {
					t.Fatalf("%v, goal %d: %v; not %v", m, goal, got, want)
				}
			}
		}
	}
}

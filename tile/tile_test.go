package tile_test

import (
	"bytes"
	"fmt"
	"math"
	"slices"
	"testing"

	"herdsman/api"
	"herdsman/tile"
)

// odd numbers: what a program may hand over by mistake. None is a local, a side or a cost.
var odd = []int{
	math.MinInt, math.MinInt + 1, -1 << 32, -257, -256, -255, -17, -16, -2, -1,
	math.MaxInt, math.MaxInt - 1, 1 << 62, 1 << 40, 1<<32 + 1, 1 << 32, 1 << 20, 1 << 16, 257, 256,
}

// laid is a tile of that size whose costs go round through all that there are, Wall among them.
func laid(w, h int) api.Tile {
	c := make([]byte, w*h)
	for i := range c {
		c[i] = byte(1 + (254+i*37)%255)
	}
	return api.Tile{W: w, H: h, C: c}
}

func ones(n int) []byte { return bytes.Repeat([]byte{1}, n) }

// each calls see with a tile of each size that may be.
func each(see func(x api.Tile)) {
	for w := 1; w <= 16; w++ {
		for h := 1; h <= 16; h++ {
			see(laid(w, h))
		}
	}
}

// bad tiles may not be.
func bad() map[string]api.Tile {
	out := map[string]api.Tile{
		"nothing":              {},
		"sides below 0":        {W: -2, H: -2, C: ones(4)},
		"sides that wrap to 0": {W: 1 << 32, H: 1 << 32},
		"sides that wrap to 1": {W: math.MinInt + 1, H: math.MinInt + 1, C: ones(1)},
		"both too great":       {W: 17, H: 17, C: ones(289)},
		"8 by 32":              {W: 8, H: 32, C: ones(256)},
		"32 by 8":              {W: 32, H: 8, C: ones(256)},
		"nil costs":            {W: 1, H: 1},
		"no costs":             {W: 1, H: 1, C: []byte{}},
		"nil costs, Span":      {W: 16, H: 16},
		"too short":            {W: 2, H: 2, C: ones(3)},
		"too long":             {W: 2, H: 2, C: ones(5)},
		"too short, Span":      {W: 16, H: 16, C: ones(255)},
		"too long, Span":       {W: 16, H: 16, C: ones(257)},
		"one too long":         {W: 1, H: 1, C: ones(2)},
		"too short by a row":   {W: 3, H: 2, C: ones(3)},
		"enough behind":        {W: 2, H: 2, C: ones(4)[:3]},
		"only 0":               {W: 1, H: 1, C: []byte{0}},
		"0 first":              {W: 2, H: 2, C: []byte{0, 1, 1, 1}},
		"0 between":            {W: 3, H: 1, C: []byte{1, 0, 255}},
		"0 last":               {W: 2, H: 2, C: []byte{1, 1, 1, 0}},
		"0 last, Span":         {W: 16, H: 16, C: append(ones(255), 0)},
	}
	for _, s := range []int{math.MinInt, -16, -1, 0, 17, 18, 255, 256, 257, 1 << 32, 1<<32 + 1, math.MaxInt} {
		long := 1
		if 1 <= s && s <= 257 {
			long = s
		}
		for _, c := range [][]byte{nil, ones(1), ones(long)} {
			out[fmt.Sprint("W ", s, ", of ", len(c))] = api.Tile{W: s, H: 1, C: c}
			out[fmt.Sprint("H ", s, ", of ", len(c))] = api.Tile{W: 1, H: s, C: c}
		}
	}
	return out
}

// 2.1

func TestMayTakesEachSizeToSpan(t *testing.T) {
	each(func(x api.Tile) {
		if !tile.May(x) {
			t.Errorf("%d by %d: may not be", x.W, x.H)
		}
	})
}

func TestMayTakesEachCostButZero(t *testing.T) {
	for cost := range 256 {
		for _, size := range [][2]int{{1, 1}, {1, 16}, {16, 1}, {16, 16}} {
			x := api.Tile{W: size[0], H: size[1], C: bytes.Repeat([]byte{byte(cost)}, size[0]*size[1])}
			if got := tile.May(x); got != (cost != 0) {
				t.Errorf("%v of cost %d: May is %v", size, cost, got)
			}
		}
	}
}

func TestMayFindsAZeroAnywhere(t *testing.T) {
	for i := range 256 {
		x := laid(16, 16)
		x.C[i] = 0
		if tile.May(x) {
			t.Errorf("cost 0 at %d: may be", i)
		}
	}
}

func TestMayLooksOnlyAtTheListItself(t *testing.T) {
	c := append(ones(4), 0, 0)
	if !tile.May(api.Tile{W: 2, H: 2, C: c[:4]}) {
		t.Error("a 0 behind the list's end was read")
	}
}

func TestNothingIsThereOfATileThatMayNotBe(t *testing.T) {
	for name, x := range bad() {
		if tile.May(x) {
			t.Errorf("%s: may be", name)
		}
		if l := tile.Open(x); len(l) != 0 {
			t.Errorf("%s: Open %v", name, l)
		}
		for _, local := range append([]int{0, 1, 2, 3, 15, 16, 255}, odd...) {
			noLocal(t, name, x, local)
		}
	}
}

// noLocal asks all that can be asked of a number that is no local.
func noLocal(t *testing.T, name string, x api.Tile, local int) {
	t.Helper()
	before := bytes.Clone(x.C)
	if got := tile.At(x, local); got != 0 {
		t.Errorf("%s: At %d: %d", name, local, got)
	}
	for side := -2; side <= 8; side++ {
		if got := tile.Near(x, local, side); got != -1 {
			t.Errorf("%s: Near %d, %d: %d", name, local, side, got)
		}
	}
	for _, cost := range []int{-1, 0, 1, 254, 255, 256} {
		if y, ok := tile.With(x, local, cost); ok || y.W != 0 || y.H != 0 || len(y.C) != 0 {
			t.Errorf("%s: With %d, %d: %v, %v", name, local, cost, y, ok)
		}
	}
	if !bytes.Equal(x.C, before) {
		t.Errorf("%s: what was handed in has changed", name)
	}
}

func TestAtIsTheCostOfEachLocal(t *testing.T) {
	each(func(x api.Tile) {
		for local, cost := range x.C {
			if got := tile.At(x, local); got != int(cost) {
				t.Fatalf("%d by %d: At %d: %d, not %d", x.W, x.H, local, got, cost)
			}
		}
	})
	x := api.Tile{W: 3, H: 1, C: []byte{1, 254, api.Wall}}
	for local, want := range []int{1, 254, api.Wall} {
		if got := tile.At(x, local); got != want {
			t.Errorf("At %d: %d, not %d", local, got, want)
		}
	}
}

func TestNoLocalOutsideTheTile(t *testing.T) {
	each(func(x api.Tile) {
		n := x.W * x.H
		for _, local := range append([]int{n, n + 1, n + x.W}, odd...) {
			noLocal(t, fmt.Sprint(x.W, " by ", x.H), x, local)
		}
	})
	long := laid(2, 3)
	long.H, long.C = 2, long.C[:4]
	noLocal(t, "memory behind the list's end", long, 4)
}

func TestNearOfEachLocal(t *testing.T) {
	each(func(x api.Tile) {
		local := 0
		for row := range x.H {
			for col := range x.W {
				want := [7]int{local - x.W, local + 1, local + x.W, local - 1, local, -1, -1}
				for side, rim := range [4]bool{row == 0, col == x.W-1, row == x.H-1, col == 0} {
					if rim {
						want[side] = -1
					}
				}
				for side, n := range want {
					if got := tile.Near(x, local, side); got != n {
						t.Fatalf("%d by %d: Near %d, %d: %d, not %d", x.W, x.H, local, side, got, n)
					}
				}
				local++
			}
		}
	})
}

func TestNearTakesNoOtherSides(t *testing.T) {
	x := laid(3, 3)
	for _, side := range append([]int{api.None, 6, 7, 8, 255, 260}, odd...) {
		if got := tile.Near(x, 4, side); got != -1 {
			t.Errorf("Near 4, %d: %d", side, got)
		}
	}
}

func TestNearGoesOverWallsToo(t *testing.T) {
	x := api.Tile{W: 3, H: 3, C: bytes.Repeat([]byte{api.Wall}, 9)}
	for side, want := range []int{1, 5, 7, 3, 4} {
		if got := tile.Near(x, 4, side); got != want {
			t.Errorf("Near 4, %d: %d, not %d", side, got, want)
		}
	}
}

// 2.2

func TestWithTakesCostsFromOneToWall(t *testing.T) {
	x := laid(3, 2)
	for cost := 1; cost <= 255; cost++ {
		y, ok := tile.With(x, 4, cost)
		if !ok || !tile.May(y) || tile.At(y, 4) != cost {
			t.Errorf("With 4, %d: %v, %v", cost, y, ok)
		}
	}
	for _, cost := range append([]int{0, 258, 511, 512}, odd...) {
		if y, ok := tile.With(x, 4, cost); ok || y.W != 0 || y.H != 0 || len(y.C) != 0 {
			t.Errorf("With 4, %d: %v, %v", cost, y, ok)
		}
	}
}

func TestWithIsNewMemory(t *testing.T) {
	whole := laid(4, 4)
	before := bytes.Clone(whole.C)
	x := api.Tile{W: 4, H: 3, C: whole.C[:12]}
	y, ok := tile.With(x, 5, int(x.C[5])) // the cost that is there already: a new tile all the same
	z, also := tile.With(x, 5, api.Wall)
	if !ok || !also {
		t.Fatal("was not laid")
	}
	if !bytes.Equal(whole.C, before) {
		t.Fatal("what was handed in has changed")
	}
	for i := range y.C {
		y.C[i] = 99
	}
	_ = append(y.C, 98)
	if !bytes.Equal(whole.C, before) || z.C[0] != before[0] {
		t.Error("an answer shares memory")
	}
	x.C[0]++
	if z.C[0] != before[0] {
		t.Error("what was handed in is kept")
	}
}

func TestOpenOfEachPattern(t *testing.T) {
	for walls := range 1 << 9 {
		x := api.Tile{W: 3, H: 3, C: make([]byte, 9)}
		var want []int
		for local := range x.C {
			x.C[local] = []byte{1, 254}[local%2]
			if walls>>local&1 == 1 {
				x.C[local] = api.Wall
			} else {
				want = append(want, local)
			}
		}
		if got := tile.Open(x); !slices.Equal(got, want) {
			t.Fatalf("Open of %v: %v, not %v", x.C, got, want)
		}
	}
}

func TestOpenOfEachSizeAndCost(t *testing.T) {
	each(func(x api.Tile) {
		var want []int
		for local, cost := range x.C {
			if cost < 255 {
				want = append(want, local)
			}
		}
		got := tile.Open(x)
		if !slices.Equal(got, want) {
			t.Fatalf("%d by %d: Open %v, not %v", x.W, x.H, got, want)
		}
		for i := range got {
			got[i] = -1
		}
		if again := tile.Open(x); !slices.Equal(again, want) {
			t.Fatalf("%d by %d: the answer is not the caller's own", x.W, x.H)
		}
	})
	if got := tile.Open(api.Tile{W: 16, H: 16, C: bytes.Repeat([]byte{api.Wall}, 256)}); len(got) != 0 {
		t.Error("all walls:", got)
	}
	if got := tile.Open(api.Tile{W: 16, H: 16, C: ones(256)}); len(got) != 256 || got[0] != 0 || got[255] != 255 {
		t.Error("no walls:", got)
	}
}

func TestSameAsksForSidesAndCosts(t *testing.T) {
	each(func(x api.Tile) {
		y := api.Tile{W: x.W, H: x.H, C: bytes.Clone(x.C)}
		if !tile.Same(x, y) {
			t.Fatalf("%d by %d: unlike itself", x.W, x.H)
		}
		for i := range y.C {
			y.C[i]--
			if tile.Same(x, y) || tile.Same(y, x) {
				t.Fatalf("%d by %d: the same with another cost at %d", x.W, x.H, i)
			}
			y.C[i]++
		}
		if turned := (api.Tile{W: x.H, H: x.W, C: x.C}); tile.Same(x, turned) != (x.W == x.H) {
			t.Fatalf("%d by %d: turned", x.W, x.H)
		}
	})
}

func TestSameOfTilesThatMayNotBe(t *testing.T) {
	tiles := bad()
	for name, x := range tiles {
		if !tile.Same(x, api.Tile{W: x.W, H: x.H, C: bytes.Clone(x.C)}) {
			t.Errorf("%s: unlike itself", name)
		}
		for other, y := range tiles {
			want := fmt.Sprint(x.W, x.H, string(x.C)) == fmt.Sprint(y.W, y.H, string(y.C))
			if tile.Same(x, y) != want {
				t.Errorf("%s, %s: Same is %v", name, other, !want)
			}
		}
	}
	if !tile.Same(api.Tile{W: 9, H: math.MinInt}, api.Tile{W: 9, H: math.MinInt, C: []byte{}}) {
		t.Error("a nil list and an empty one are unlike")
	}
	if tile.Same(api.Tile{W: 2, H: 1, C: ones(2)}, api.Tile{W: 2, H: 1, C: ones(3)}) {
		t.Error("a list is the same as a longer one")
	}
	if tile.Same(api.Tile{W: 2, H: 1, C: ones(2)}, api.Tile{W: 2, H: 2, C: ones(2)}) {
		t.Error("another H is the same")
	}
}

// 2.3

func TestWhatIsLaidIsThereAndAllElseStays(t *testing.T) {
	each(func(x api.Tile) {
		for local := range x.C {
			for _, cost := range []int{1, 254, api.Wall} {
				y, ok := tile.With(x, local, cost)
				if !ok || y.W != x.W || y.H != x.H || len(y.C) != len(x.C) {
					t.Fatalf("%d by %d: With %d, %d: %v, %v", x.W, x.H, local, cost, y, ok)
				}
				for other := range x.C {
					want := tile.At(x, other)
					if other == local {
						want = cost
					}
					if got := tile.At(y, other); got != want {
						t.Fatalf("%d by %d: With %d, %d: At %d: %d, not %d", x.W, x.H, local, cost, other, got, want)
					}
				}
				if back, ok := tile.With(y, local, tile.At(x, local)); !ok || !tile.Same(back, x) {
					t.Fatalf("%d by %d: With %d, %d, and back: %v", x.W, x.H, local, cost, back)
				}
			}
		}
	})
}

func TestExampleOfTwoByTwo(t *testing.T) {
	x := api.Tile{W: 2, H: 2, C: []byte{1, 255, 3, 4}}
	if l := tile.Open(x); !slices.Equal(l, []int{0, 2, 3}) {
		t.Error("Open:", l)
	}
	if n := tile.Near(x, 3, api.North); n != 1 {
		t.Error("Near:", n)
	}
}

func TestNothingHandedInIsChanged(t *testing.T) {
	each(func(x api.Tile) {
		before := bytes.Clone(x.C)
		tile.May(x)
		tile.Open(x)
		tile.Same(x, x)
		for local := -1; local <= len(x.C); local++ {
			tile.At(x, local)
			for side := -1; side <= 6; side++ {
				tile.Near(x, local, side)
			}
			tile.With(x, local, 200)
		}
		if !bytes.Equal(x.C, before) {
			t.Fatalf("%d by %d: changed", x.W, x.H)
		}
	})
}

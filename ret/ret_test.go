package ret

import (
	"math"
	"slices"
	"testing"

	"tenterhook/api"
)

const (
	least    = math.MinInt
	greatest = math.MaxInt
	lastAddr = 1000000*4096 + 4095
)

// cells are n cells that are told apart, from a first one on.
func cells(n, first int) []int {
	out := make([]int, n)
	for k := range out {
		out[k] = first + k
	}
	return out
}

// roomy is a list with room behind its end, in which stands what nobody is to touch.
func roomy(l []int) []int {
	out := append(slices.Clone(l), 7001, 7002, 7003, 7004, 7005, 7006)
	return out[:len(l)]
}

// behind is a list with the room behind it.
func behind(l []int) []int { return slices.Clone(l[:cap(l)]) }

// same: are two tasks alike? Lists without cells are, nil or not.
func same(a, b Task) bool {
	return slices.Equal(a.D, b.D) && slices.Equal(a.R, b.R) && a.P == b.P && a.H == b.H
}

// at is a place.
func at(th, k int) api.Place { return api.Place{Th: th, At: k} }

// insane are tasks that are not sane, of each kind.
func insane() []Task {
	r := cells(5, 10)
	return []Task{
		{D: make([]int, 65)}, {D: make([]int, 200), R: r}, {R: make([]int, 65)}, {R: make([]int, 66), H: 3},
		{R: r, H: -1}, {R: r, H: least}, {R: r, H: 1}, {R: r, H: 2}, {R: r, H: 6}, {R: r, H: greatest}, {H: 1}, {H: 3}, {R: r[:2], H: 2}, {R: r[:2], H: 3},
		{R: r, P: at(-1, 0)}, {R: r, P: at(0, -1)}, {R: r, P: at(1000001, 0)}, {R: r, P: at(0, 4096)}, {R: r, P: at(least, greatest)}, {R: r, P: at(greatest, greatest)},
		{D: make([]int, 65), R: make([]int, 65), P: at(-1, -1), H: -5},
	}
}

// result is all that a call tells.
type result struct {
	t Task
	x int
	b bool
	e api.Throw
}

func (r result) same(o result) bool { return same(r.t, o.t) && r.x == o.x && r.b == o.b && r.e == o.e }

// call is a call by its name, with the numbers that it takes.
type call struct {
	name string
	x, y int
}

func (c call) do(t Task) result {
	var r result
	switch c.name {
	case "Enter":
		r.t, r.e = Enter(t, c.x)
	case "Leave":
		r.t, r.b, r.e = Leave(t)
	case "Begin":
		r.t, r.e = Begin(t, c.x, c.y)
	case "Next":
		r.t, r.b, r.e = Next(t, c.x)
	case "Drop":
		r.t, r.e = Drop(t)
	case "Index":
		r.x, r.e = Index(t, c.x)
	case "Keep":
		r.t, r.e = Keep(t, c.x)
	case "Back":
		r.t, r.x, r.e = Back(t)
	case "Catch":
		r.t, r.e = Catch(t, c.x)
	case "Throw":
		r.t, r.b = Throw(t, c.x)
	}
	return r
}

// calls are all calls, with each of some numbers.
func calls(numbers []int) []call {
	out := []call{{"Leave", 0, 0}, {"Drop", 0, 0}, {"Back", 0, 0}}
	for _, x := range numbers {
		for _, name := range []string{"Enter", "Next", "Index", "Keep", "Catch", "Throw"} {
			out = append(out, call{name, x, 0})
		}
		for _, y := range numbers {
			out = append(out, call{"Begin", x, y})
		}
	}
	return out
}

// modelPlace and modelNumber are P11.1, written out.
func modelPlace(n int) (api.Place, bool) {
	for th, left := 0, n; n >= 0 && n <= lastAddr; {
		if left < 4096 {
			return at(th, left), true
		}
		by := max(1, left/8192)
		th, left = th+by, left-by*4096
	}
	return api.Place{}, false
}

func modelNumber(p api.Place) int {
	if p.Th < 0 || p.Th > 1000000 || p.At < 0 || p.At > 4095 {
		return -1
	}
	return 4096*p.Th + p.At
}

func modelMayH(h, r int) bool { return h == 0 || h > 2 && h <= r }

func modelSane(t Task) bool {
	return len(t.D) < 65 && len(t.R) < 65 && modelNumber(t.P) > -1 && modelMayH(t.H, len(t.R))
}

// clip is H where so many cells of R are left.
func clip(h, left int) int {
	if h > left {
		return 0
	}
	return h
}

// model is what the document tells of a call.
func model(t Task, c call) result {
	if !modelSane(t) {
		t = Task{R: []int{-2}}
	}
	t = Task{D: slices.Clone(t.D), R: slices.Clone(t.R), P: t.P, H: t.H}
	n := len(t.R)
	thrown := func(e api.Throw) result { return result{t: t, e: e} }
	cut := func(k int) Task { return Task{D: t.D, R: slices.Clone(t.R[:n-k]), P: t.P, H: clip(t.H, n-k)} }
	switch c.name {
	case "Enter", "Catch":
		p, ok := modelPlace(c.x)
		more := []int{modelNumber(t.P)}
		if c.name == "Catch" {
			more = []int{t.H, len(t.D), modelNumber(t.P), -1}
		}
		switch {
		case !ok:
			return thrown(-9)
		case n+len(more) > 64:
			return thrown(-5)
		}
		out := Task{D: t.D, R: append(slices.Clone(t.R), more...), P: p, H: t.H}
		if c.name == "Catch" {
			out.H = n + 3
		}
		return result{t: out}
	case "Leave":
		return modelLeave(t, thrown, cut)
	case "Begin", "Keep":
		more := []int{c.x, c.y}
		if c.name == "Keep" {
			more = more[:1]
		}
		if n+len(more) > 64 {
			return thrown(-5)
		}
		return result{t: Task{D: t.D, R: append(slices.Clone(t.R), more...), P: t.P, H: t.H}}
	case "Next":
		if n < 2 {
			return thrown(-6)
		}
		a := t.R[n-1] - t.R[n-2]
		b := a + c.x
		if (a < 0 && b >= 0 || a >= 0 && b < 0) && (a < 0 && c.x >= 0 || a >= 0 && c.x < 0) {
			return result{t: cut(2), b: true}
		}
		t.R[n-1] += c.x
		return result{t: t}
	case "Drop":
		if n < 2 {
			return thrown(-6)
		}
		return result{t: cut(2)}
	case "Back":
		if n < 1 {
			return thrown(-6)
		}
		return result{t: cut(1), x: t.R[n-1]}
	case "Index":
		if c.x < 0 || c.x > 31 || n < 2*c.x+1 {
			return result{e: -6}
		}
		return result{x: t.R[n-1-2*c.x]}
	}
	return modelThrow(t, c.x)
}

func modelLeave(t Task, thrown func(api.Throw) result, cut func(int) Task) result {
	n := len(t.R)
	if n == 0 {
		return thrown(-6)
	}
	top := t.R[n-1]
	if top == -2 {
		return result{t: cut(1), b: true}
	}
	if top != -1 {
		p, ok := modelPlace(top)
		if !ok {
			return thrown(-9)
		}
		out := cut(1)
		out.P = p
		return result{t: out}
	}
	if n < 4 || t.H != n-1 {
		return thrown(-6)
	}
	p, ok := modelPlace(t.R[n-2])
	if old := t.R[n-4]; !ok || !modelMayH(old, n-4) {
		return thrown(-9)
	}
	if len(t.D) == 64 {
		return thrown(-3)
	}
	return result{t: Task{D: append(slices.Clone(t.D), 0), R: t.R[:n-4], P: p, H: t.R[n-4]}}
}

func modelThrow(t Task, n int) result {
	if t.H == 0 {
		return result{t: t}
	}
	p, ok := modelPlace(t.R[t.H-1])
	if !ok {
		return result{t: Task{D: t.D, P: t.P}}
	}
	had := t.R[t.H-2]
	if had < 0 {
		had = 0
	}
	if had > 63 {
		had = 63
	}
	d := slices.Clone(t.D)
	for len(d) < had {
		d = append(d, 0)
	}
	d = append(d[:had:had], n)
	h := t.R[t.H-3]
	if !modelMayH(h, t.H-3) {
		h = 0
	}
	return result{t: Task{D: d, R: t.R[:t.H-3], P: p, H: h}, b: true}
}

// check holds a call against the model, and what was handed in against what it was.
func check(t *testing.T, x Task, c call) result {
	t.Helper()
	want := model(x, c)
	in := Task{D: roomy(x.D), R: roomy(x.R), P: x.P, H: x.H}
	d, r := behind(in.D), behind(in.R)
	got := c.do(in)
	if !got.same(want) {
		t.Errorf("%v of %v: got %v, want %v", c, x, got, want)
	}
	if !slices.Equal(behind(in.D), d) || !slices.Equal(behind(in.R), r) {
		t.Errorf("%v of %v: what was handed in is changed", c, x)
	}
	return got
}

// P13.1

func TestNew(t *testing.T) {
	for _, p := range []api.Place{{}, at(1, 5), at(1000000, 4095), at(-1, 0), at(least, greatest)} {
		if a := New(p); !same(a, Task{R: []int{-2}, P: p}) {
			t.Error(p, a)
		}
	}
	a, b := New(at(1, 1)), New(at(1, 1))
	a.R[0] = 9
	if b.R[0] != -2 {
		t.Error("two tasks share a cell")
	}
	if Root != -2 || Caught != -1 {
		t.Error(Root, Caught)
	}
}

func TestSane(t *testing.T) {
	for k, x := range insane() {
		if Sane(x) {
			t.Error(k, x)
		}
	}
	r := cells(5, 10)
	for k, x := range []Task{
		{}, {D: []int{}, R: []int{}}, New(api.Place{}), {D: make([]int, 63), R: make([]int, 63)}, {D: make([]int, 64), R: make([]int, 64), H: 64},
		{R: r, H: 0}, {R: r, H: 3}, {R: r, H: 4}, {R: r, H: 5}, {R: r[:3], H: 3}, {P: at(1000000, 4095)}, {P: at(0, 4095)}, {P: at(1000000, 0)},
		{D: []int{least, greatest}, R: []int{least, greatest, -1, -2}},
	} {
		if !Sane(x) {
			t.Error(k, x)
		}
	}
	for h := -3; h < 70; h++ {
		for n := range 67 {
			if Sane(Task{R: make([]int, n), H: h}) != modelSane(Task{R: make([]int, n), H: h}) {
				t.Error(h, n)
			}
		}
	}
	if Sane(New(at(-1, 0))) || !Sane(New(at(1000000, 4095))) || Sane(New(at(1000000, 4096))) {
		t.Error("New is sane just if its place has a number")
	}
}

// What is not sane is taken for a task at its beginning, by each call.
func TestInsane(t *testing.T) {
	fresh := func() Task { return Task{R: []int{-2}} }
	for _, x := range insane() {
		for _, c := range calls([]int{least, -1, 0, 1, 2, 4096, lastAddr, lastAddr + 1, greatest}) {
			if got, want := check(t, x, c), c.do(fresh()); !got.same(want) {
				t.Error(c, x, got)
			}
		}
		for k, y := range []struct {
			c    call
			want result
		}{
			{call{"Enter", 4097, 0}, result{t: Task{R: []int{-2, 0}, P: at(1, 1)}}},
			{call{"Enter", -1, 0}, result{t: fresh(), e: api.Address}},
			{call{"Leave", 0, 0}, result{b: true}},
			{call{"Begin", 3, 4}, result{t: Task{R: []int{-2, 3, 4}}}},
			{call{"Next", 1, 0}, result{t: fresh(), e: api.RetUnder}},
			{call{"Drop", 0, 0}, result{t: fresh(), e: api.RetUnder}},
			{call{"Index", 0, 0}, result{x: -2}},
			{call{"Index", 1, 0}, result{e: api.RetUnder}},
			{call{"Keep", 8, 0}, result{t: Task{R: []int{-2, 8}}}},
			{call{"Back", 0, 0}, result{x: -2}},
			{call{"Catch", 4097, 0}, result{t: Task{R: []int{-2, 0, 0, 0, -1}, P: at(1, 1), H: 4}}},
			{call{"Throw", 8, 0}, result{t: fresh()}},
		} {
			if got := y.c.do(x); !got.same(y.want) {
				t.Error(k, x, got)
			}
		}
	}
}

// Tasks of no cell, nil and not.
func TestNoCell(t *testing.T) {
	for _, x := range []Task{{}, {D: []int{}, R: []int{}}} {
		for k, y := range []struct {
			c    call
			want result
		}{
			{call{"Leave", 0, 0}, result{e: -6}}, {call{"Next", 1, 0}, result{e: -6}}, {call{"Drop", 0, 0}, result{e: -6}}, {call{"Back", 0, 0}, result{e: -6}}, {call{"Index", 0, 0}, result{e: -6}},
			{call{"Throw", 1, 0}, result{}}, {call{"Enter", 1, 0}, result{t: Task{R: []int{0}, P: at(0, 1)}}}, {call{"Keep", 1, 0}, result{t: Task{R: []int{1}}}},
			{call{"Begin", 1, 2}, result{t: Task{R: []int{1, 2}}}}, {call{"Catch", 1, 0}, result{t: Task{R: []int{0, 0, 0, -1}, P: at(0, 1), H: 3}}},
		} {
			if got := check(t, x, y.c); !got.same(y.want) {
				t.Error(k, got)
			}
		}
	}
}

// Where cells go, and H is above how many are left, it is 0.
func TestHWhereCellsGo(t *testing.T) {
	for _, x := range []struct {
		name    string
		n, h, w int
		top     []int
	}{
		{"Back", 5, 5, 0, []int{0}}, {"Back", 5, 4, 4, []int{0}}, {"Back", 5, 3, 3, []int{0}}, {"Back", 5, 0, 0, []int{0}}, {"Back", 3, 3, 0, []int{0}},
		{"Drop", 6, 6, 0, []int{0, 0}}, {"Drop", 6, 5, 0, []int{0, 0}}, {"Drop", 6, 4, 4, []int{0, 0}}, {"Drop", 6, 3, 3, []int{0, 0}},
		{"Next", 6, 6, 0, []int{1, 0}}, {"Next", 6, 5, 0, []int{1, 0}}, {"Next", 6, 4, 4, []int{1, 0}},
		{"Leave", 5, 5, 0, []int{4097}}, {"Leave", 5, 4, 4, []int{4097}}, {"Leave", 5, 3, 3, []int{4097}},
		{"Leave", 5, 5, 0, []int{-2}}, {"Leave", 5, 4, 4, []int{-2}}, {"Leave", 5, 3, 3, []int{-2}}, {"Leave", 3, 3, 0, []int{-2}},
	} {
		r := append(make([]int, x.n-len(x.top)), x.top...)
		got := check(t, Task{D: []int{1}, R: r, P: at(2, 2), H: x.h}, call{x.name, 1, 0})
		if got.e != api.OK || got.t.H != x.w || len(got.t.R) != x.n-len(x.top) || !Sane(got.t) {
			t.Error(x, got)
		}
	}
	// Where a round goes on, no cell goes: H is as it was, also within the loop's cells.
	for _, h := range []int{0, 3, 4, 5, 6} {
		got := check(t, Task{R: []int{9, 9, 9, 9, 5, 1}, H: h}, call{"Next", 1, 0})
		if got.e != api.OK || got.b || got.t.H != h || !slices.Equal(got.t.R, []int{9, 9, 9, 9, 5, 2}) {
			t.Error(h, got)
		}
	}
}

// P13.2

func TestEnterLeave(t *testing.T) {
	d := []int{4, 5}
	a := Task{D: d, R: []int{-2}, P: at(3, 9)}
	b, e := Enter(a, 4096*7+1)
	if e != api.OK || !same(b, Task{D: d, R: []int{-2, 3*4096 + 9}, P: at(7, 1)}) {
		t.Fatal(b, e)
	}
	c, e := Enter(b, lastAddr)
	if e != api.OK || !same(c, Task{D: d, R: []int{-2, 3*4096 + 9, 7*4096 + 1}, P: at(1000000, 4095)}) {
		t.Fatal(c, e)
	}
	x, end, e := Leave(c)
	if e != api.OK || end || !same(x, b) {
		t.Error(x, end, e)
	}
	y, end, e := Leave(x)
	if e != api.OK || end || !same(y, a) {
		t.Error(y, end, e)
	}
	z, end, e := Leave(y)
	if e != api.OK || !end || !same(z, Task{D: d, P: at(3, 9)}) {
		t.Error(z, end, e)
	}
	z2, end, e := Leave(z)
	if e != api.RetUnder || end || !same(z2, z) {
		t.Error(z2, end, e)
	}
}

func TestEnterEdges(t *testing.T) {
	for n := 60; n <= 64; n++ {
		for _, to := range []int{least, -4096, -2, -1, 0, 1, 4095, 4096, lastAddr, lastAddr + 1, greatest} {
			a := Task{D: []int{1}, R: cells(n, 100), P: at(5, 6), H: 7}
			got := check(t, a, call{"Enter", to, 0})
			switch {
			case to < 0 || to > lastAddr: // told ahead of RetOver
				if got.e != api.Address || !same(got.t, a) {
					t.Error(n, to, got)
				}
			case n == 64:
				if got.e != api.RetOver || !same(got.t, a) {
					t.Error(n, to, got)
				}
			default:
				if got.e != api.OK || len(got.t.R) != n+1 || got.t.R[n] != 5*4096+6 || got.t.H != 7 || modelNumber(got.t.P) != to {
					t.Error(n, to, got)
				}
			}
		}
	}
}

func TestLeaveNoPlace(t *testing.T) {
	for _, top := range []int{least, -4096, -3, lastAddr + 1, greatest} {
		a := Task{D: []int{1}, R: []int{5, 6, 7, top}, P: at(1, 2), H: 4}
		if got := check(t, a, call{"Leave", 0, 0}); got.e != api.Address || got.b || !same(got.t, a) {
			t.Error(top, got)
		}
	}
	for _, top := range []int{0, 1, 4095, 4096, lastAddr} {
		a := Task{D: make([]int, 64), R: []int{5, 6, 7, top}, P: at(1, 2), H: 3}
		got := check(t, a, call{"Leave", 0, 0})
		if got.e != api.OK || got.b || modelNumber(got.t.P) != top || !slices.Equal(got.t.R, []int{5, 6, 7}) || len(got.t.D) != 64 || got.t.H != 3 {
			t.Error(top, got)
		}
	}
}

func TestLeaveCatch(t *testing.T) {
	r := func(c ...int) []int { return append([]int{8, 8, 8, 8}, c...) }
	for k, x := range []struct {
		d    int
		r    []int
		h    int
		e    api.Throw
		oldH int
	}{
		{2, r(0, 2, 4097, -1), 7, api.OK, 0},
		{2, r(3, 2, 4097, -1), 7, api.OK, 3},
		{2, r(4, 2, 4097, -1), 7, api.OK, 4},
		{2, r(5, 2, 4097, -1), 7, api.Address, 0},
		{2, r(2, 2, 4097, -1), 7, api.Address, 0},
		{2, r(1, 2, 4097, -1), 7, api.Address, 0},
		{2, r(-1, 2, 4097, -1), 7, api.Address, 0},
		{2, r(least, 2, 4097, -1), 7, api.Address, 0},
		{2, r(greatest, 2, 4097, -1), 7, api.Address, 0},
		{2, r(0, 2, -1, -1), 7, api.Address, 0},
		{2, r(0, 2, -2, -1), 7, api.Address, 0},
		{2, r(0, 2, lastAddr, -1), 7, api.OK, 0},
		{2, r(0, 2, lastAddr+1, -1), 7, api.Address, 0},
		{2, r(0, 2, least, -1), 7, api.Address, 0},
		{2, r(0, greatest, 4097, -1), 7, api.OK, 0}, // how many D had is not asked for
		{2, r(0, least, 4097, -1), 7, api.OK, 0},
		{2, r(0, 2, 4097, -1), 8, api.RetUnder, 0},
		{2, r(0, 2, 4097, -1), 6, api.RetUnder, 0},
		{2, r(0, 2, 4097, -1), 4, api.RetUnder, 0},
		{2, r(0, 2, 4097, -1), 0, api.RetUnder, 0},
		{63, r(0, 2, 4097, -1), 7, api.OK, 0},
		{64, r(0, 2, 4097, -1), 7, api.Over, 0},
		{64, r(0, 2, -5, -1), 7, api.Address, 0}, // ahead of Over
		{64, r(5, 2, 4097, -1), 7, api.Address, 0},
		{64, r(5, 2, -5, -1), 6, api.RetUnder, 0}, // ahead of both
		{0, []int{-1}, 0, api.RetUnder, 0},
		{0, []int{0, -1}, 0, api.RetUnder, 0},
		{0, []int{0, 0, -1}, 0, api.RetUnder, 0},
		{0, []int{0, 0, -1}, 3, api.RetUnder, 0},
		{0, []int{0, 0, 4097, -1}, 3, api.OK, 0},
		{0, []int{0, 0, 4097, -1}, 4, api.RetUnder, 0},
		{0, []int{3, 0, 4097, -1}, 3, api.Address, 0},
	} {
		a := Task{D: cells(x.d, 30), R: x.r, P: at(6, 6), H: x.h}
		got := check(t, a, call{"Leave", 0, 0})
		want := a
		if x.e == api.OK {
			p, _ := modelPlace(x.r[len(x.r)-2])
			want = Task{D: append(cells(x.d, 30), 0), R: x.r[:len(x.r)-4], P: p, H: x.oldH}
		}
		if got.e != x.e || got.b || !same(got.t, want) {
			t.Error(k, got)
		}
	}
}

// P13.3

func TestLoop(t *testing.T) {
	for k, x := range []struct {
		limit, from, by int
		want            []int
	}{
		{3, 0, 1, []int{0, 1, 2}},
		{10, 0, 4, []int{0, 4, 8}},
		{8, 0, 4, []int{0, 4}},
		{0, 3, -1, []int{3, 2, 1, 0}},
		{-4, 3, -3, []int{3, 0, -3}},
		{least + 1, greatest - 1, 1, []int{greatest - 1, greatest, least}},
		{greatest, least + 1, -1, []int{least + 1, least, greatest}},
		{5, 5, -1, []int{5}},
		{5, 4, 1, []int{4}},
		{5, 4, greatest, []int{4}},
		{5, 5, least, []int{5}},
	} {
		a, e := Begin(New(at(2, 2)), x.limit, x.from)
		if e != api.OK || !same(a, Task{R: []int{-2, x.limit, x.from}, P: at(2, 2)}) {
			t.Fatal(k, a, e)
		}
		var got []int
		for end := false; !end && len(got) < 9; {
			i, e := Index(a, 0)
			if e != api.OK {
				t.Fatal(k, e)
			}
			got = append(got, i)
			if a, end, e = Next(a, x.by); e != api.OK {
				t.Fatal(k, e)
			}
		}
		if !slices.Equal(got, x.want) || !same(a, New(at(2, 2))) {
			t.Error(k, got, a)
		}
	}
}

func TestNext(t *testing.T) {
	for k, x := range []struct {
		limit, index, n int
		end             bool
	}{
		{5, 4, 1, true}, {5, 5, 1, false}, {5, 6, 1, false}, {5, 3, 1, false},
		{5, 4, 0, false}, {5, 5, 0, false}, {5, 6, 0, false},
		{5, 4, -1, false}, {5, 5, -1, true}, {5, 6, -1, false}, {5, 7, -1, false},
		{5, 3, 2, true}, {5, 2, 2, false}, {5, 7, -3, true}, {5, 7, -2, false},
		{0, least, greatest, false}, {0, least, least, false}, {0, greatest, least, true}, {0, greatest, greatest, false}, {0, -1, greatest, true}, {0, 0, least, true},
		{least, greatest, 1, true}, {greatest, least, -1, false}, {greatest, least, -2, true}, {greatest, least, -3, true}, {least, least, 1, false},
	} {
		a := Task{D: []int{1}, R: []int{-2, x.limit, x.index}, P: at(1, 1)}
		want := Task{D: []int{1}, R: []int{-2}, P: at(1, 1)}
		if !x.end {
			want.R = []int{-2, x.limit, x.index + x.n}
		}
		if got := check(t, a, call{"Next", x.n, 0}); got.e != api.OK || got.b != x.end || !same(got.t, want) {
			t.Error(k, got)
		}
	}
	numbers := []int{least, least + 1, -4097, -2, -1, 0, 1, 2, 5, 1 << 40, greatest - 1, greatest}
	for _, limit := range numbers {
		for _, index := range numbers {
			for _, n := range numbers {
				check(t, Task{R: []int{7, limit, index}, H: 3}, call{"Next", n, 0})
			}
		}
	}
}

func TestLoopEdges(t *testing.T) {
	for n := range 65 {
		a := Task{D: []int{3}, R: cells(n, 50), P: at(4, 4)}
		b := check(t, a, call{"Begin", least, greatest})
		if n <= 62 && (b.e != api.OK || !slices.Equal(b.t.R, append(cells(n, 50), least, greatest))) || n > 62 && (b.e != api.RetOver || !same(b.t, a)) {
			t.Error(n, b)
		}
		for _, name := range []string{"Next", "Drop"} {
			x := check(t, a, call{name, 1, 0})
			if n < 2 && (x.e != api.RetUnder || x.b || !same(x.t, a)) || n >= 2 && x.e != api.OK {
				t.Error(n, name, x)
			}
		}
		if x := check(t, a, call{"Drop", 0, 0}); n >= 2 && !slices.Equal(x.t.R, a.R[:n-2]) {
			t.Error(n, x)
		}
		for _, k := range []int{least, -2, -1, 0, 1, 2, 15, 30, 31, 32, 33, 1 << 32, 1 << 62, 1<<62 + 1, 1 << 63 >> 1, greatest} {
			x := check(t, a, call{"Index", k, 0})
			there := k >= 0 && k <= 31 && 2*k < n
			if there && (x.e != api.OK || x.x != 50+n-1-2*k) || !there && (x.e != api.RetUnder || x.x != 0) {
				t.Error(n, k, x)
			}
		}
	}
}

// P13.4

func TestKeepBack(t *testing.T) {
	for _, x := range []int{least, -2, -1, 0, 1, 4096, greatest} {
		for n := range 65 {
			a := Task{D: []int{3}, R: cells(n, 50), P: at(4, 4)}
			b := check(t, a, call{"Keep", x, 0})
			if n == 64 {
				if b.e != api.RetOver || !same(b.t, a) {
					t.Error(n, b)
				}
				continue
			}
			if b.e != api.OK || !same(b.t, Task{D: a.D, R: append(cells(n, 50), x), P: a.P}) {
				t.Error(n, b)
			}
			c := check(t, b.t, call{"Back", 0, 0})
			if c.e != api.OK || c.x != x || !same(c.t, a) {
				t.Error(n, c)
			}
		}
	}
	if b := check(t, Task{D: []int{1}}, call{"Back", 0, 0}); b.e != api.RetUnder || b.x != 0 || !same(b.t, Task{D: []int{1}}) {
		t.Error(b)
	}
}

// P13.5

func TestCatch(t *testing.T) {
	for n := range 65 {
		for _, d := range []int{0, 1, 63, 64} {
			for _, h := range []int{0, 3, n - 1, n} {
				a := Task{D: cells(d, 9), R: cells(n, 50), P: at(2, 3), H: h}
				if !modelSane(a) {
					continue
				}
				got := check(t, a, call{"Catch", 4096*9 + 8, 0})
				if n > 60 {
					if got.e != api.RetOver || !same(got.t, a) {
						t.Error(n, d, h, got)
					}
					continue
				}
				if got.e != api.OK || !same(got.t, Task{D: a.D, R: append(cells(n, 50), h, d, 2*4096+3, -1), P: at(9, 8), H: n + 3}) {
					t.Error(n, d, h, got)
				}
			}
		}
		for _, to := range []int{least, -2, -1, lastAddr + 1, greatest} {
			a := Task{R: cells(n, 50), P: at(2, 3)}
			if got := check(t, a, call{"Catch", to, 0}); got.e != api.Address || !same(got.t, a) { // ahead of RetOver
				t.Error(n, to, got)
			}
		}
	}
	if got := check(t, New(api.Place{}), call{"Catch", lastAddr, 0}); got.e != api.OK || got.t.P != at(1000000, 4095) {
		t.Error(got)
	}
}

// P13.6

func TestThrow(t *testing.T) {
	base := []int{8, 8, 8, 8}
	for k, x := range []struct {
		old, had, back, d int
		dOut              []int
		h                 int
	}{
		{0, 2, 4097, 4, []int{30, 31, 77}, 0},
		{0, 2, 4097, 2, []int{30, 31, 77}, 0},
		{0, 2, 4097, 1, []int{30, 0, 77}, 0},
		{0, 2, 4097, 0, []int{0, 0, 77}, 0},
		{0, 0, 4097, 3, []int{77}, 0},
		{0, -1, 4097, 3, []int{77}, 0},
		{0, least, 4097, 3, []int{77}, 0},
		{0, 62, 4097, 64, append(cells(62, 30), 77), 0},
		{0, 63, 4097, 64, append(cells(63, 30), 77), 0},
		{0, 64, 4097, 64, append(cells(63, 30), 77), 0},
		{0, 65, 4097, 64, append(cells(63, 30), 77), 0},
		{0, greatest, 4097, 64, append(cells(63, 30), 77), 0},
		{0, greatest, 4097, 1, append(append([]int{30}, make([]int, 62)...), 77), 0},
		{3, 1, 0, 1, []int{30, 77}, 3},
		{4, 1, lastAddr, 1, []int{30, 77}, 4},
		{5, 1, 4097, 1, []int{30, 77}, 0},
		{2, 1, 4097, 1, []int{30, 77}, 0},
		{1, 1, 4097, 1, []int{30, 77}, 0},
		{-1, 1, 4097, 1, []int{30, 77}, 0},
		{least, 1, 4097, 1, []int{30, 77}, 0},
		{greatest, 1, 4097, 1, []int{30, 77}, 0},
	} {
		for above := range 4 {
			r := append(slices.Concat(base, []int{x.old, x.had, x.back}), cells(above, 60)...)
			p, _ := modelPlace(x.back)
			got := check(t, Task{D: cells(x.d, 30), R: r, P: at(6, 6), H: 7}, call{"Throw", 77, 0})
			if !got.b || !same(got.t, Task{D: x.dOut, R: base, P: p, H: x.h}) || !Sane(got.t) {
				t.Error(k, above, got)
			}
		}
	}
	for _, n := range []int{least, -28, -1, 0, 1, greatest} {
		a := Task{D: []int{1, 2}, R: []int{0, 1, 4097, -1}, P: at(6, 6), H: 3}
		if got := check(t, a, call{"Throw", n, 0}); !got.b || !same(got.t, Task{D: []int{1, n}, P: at(1, 1)}) {
			t.Error(n, got)
		}
		a.H = 0
		if got := check(t, a, call{"Throw", n, 0}); got.b || !same(got.t, a) {
			t.Error(n, got)
		}
	}
}

func TestThrowNoPlace(t *testing.T) {
	for _, back := range []int{least, -3, -2, -1, lastAddr + 1, greatest} {
		for _, old := range []int{0, 3, -7} {
			a := Task{D: []int{1, 2}, R: []int{8, 8, 8, old, 1, back, -1, 5}, P: at(6, 6), H: 6}
			if got := check(t, a, call{"Throw", 5, 0}); got.b || !same(got.t, Task{D: []int{1, 2}, P: at(6, 6)}) {
				t.Error(back, old, got)
			}
		}
	}
}

// P13.7

// What is entered is left to where it was, from every depth.
func TestAsItWas(t *testing.T) {
	a := Task{D: []int{4, 5}, R: []int{-2}, P: at(3, 9)}
	stack := []Task{a}
	for k := 0; ; k++ {
		b, e := Enter(a, 4096*(k+1)+k)
		if len(a.R) == 64 {
			if e != api.RetOver || !same(b, a) {
				t.Error(k, b, e)
			}
			break
		}
		if e != api.OK {
			t.Fatal(k, e)
		}
		a = b
		stack = append(stack, a)
	}
	if len(stack) != 64 {
		t.Error(len(stack))
	}
	for k := len(stack) - 2; k >= 0; k-- {
		b, end, e := Leave(a)
		if e != api.OK || end || !same(b, stack[k]) {
			t.Fatal(k, b, end, e)
		}
		a = b
	}
}

// Catches within catches, left without a throw, and thrown to.
func TestCaughtWithin(t *testing.T) {
	outer := Task{D: []int{1, 2, 3}, R: []int{-2, 40}, P: at(1, 1)}
	one, e := Catch(outer, 4096*2)
	if e != api.OK {
		t.Fatal(e)
	}
	one.D = []int{1, 2, 3, 4}
	one, _ = Enter(one, 4096*3)
	two, e := Catch(one, 4096*4+2)
	if e != api.OK || two.H != 10 {
		t.Fatal(two, e)
	}
	deeper, _ := Begin(two, 5, 0)
	deeper, _ = Keep(deeper, 9)
	deeper, _ = Enter(deeper, 4096*5)
	deeper.D = []int{1}
	// Left: 0 lies above what is there then, and the outer catch is there again.
	left, end, e := Leave(two)
	if e != api.OK || end || !same(left, Task{D: []int{1, 2, 3, 4, 0}, R: one.R, P: one.P, H: one.H}) {
		t.Error(left, end, e)
	}
	// Thrown to: as many cells as there were, and n.
	got, ok := Throw(deeper, -10)
	if !ok || !same(got, Task{D: []int{1, 0, 0, 0, -10}, R: one.R, P: one.P, H: one.H}) {
		t.Error(got, ok)
	}
	got, ok = Throw(got, 12)
	if !ok || !same(got, Task{D: []int{1, 0, 0, 12}, R: outer.R, P: outer.P}) {
		t.Error(got, ok)
	}
	if again, ok := Throw(got, 13); ok || !same(again, got) {
		t.Error(again, ok)
	}
}

// R3: two tasks that were made from one do not come into each other.
func TestTwoFromOne(t *testing.T) {
	a := Task{D: roomy([]int{1, 2}), R: roomy([]int{0, 1, 4097, 9, 8, 7}), P: at(1, 1), H: 3}
	numbers := []int{1, 2, 4096}
	for _, c := range calls(numbers) {
		for _, o := range calls(numbers) {
			x := c.do(a)
			seen := result{t: Task{D: slices.Clone(x.t.D), R: slices.Clone(x.t.R), P: x.t.P, H: x.t.H}, x: x.x, b: x.b, e: x.e}
			o.do(a)
			o.do(x.t)
			if !x.same(seen) {
				t.Error(c, o, x, seen)
			}
		}
	}
	one, _ := Keep(a, 100)
	two, _ := Keep(a, 200)
	if one.R[6] != 100 || two.R[6] != 200 {
		t.Error(one, two)
	}
	x, _ := Throw(a, 100)
	y, _ := Throw(a, 200)
	if x.D[1] != 100 || y.D[1] != 200 || !slices.Equal(a.D, []int{1, 2}) {
		t.Error(x, y)
	}
}

// ending is how a call of a name ended.
type ending struct {
	name string
	e    api.Throw
	b    bool
}

// P1, and all of P13: at mixes of tasks and numbers each call ends, panics nowhere, and is as the model's.
func TestMixes(t *testing.T) {
	numbers := []int{least, -4096, -3, -2, -1, 0, 1, 2, 3, 4, 31, 32, 63, 64, 4097, lastAddr, lastAddr + 1, greatest}
	all := calls(numbers)
	seed := uint64(20)
	pick := func(n int) int {
		seed = seed*6364136223846793005 + 1442695040888963407
		return int(seed>>33) % n
	}
	depths := []int{0, 1, 2, 3, 4, 5, 7, 60, 61, 62, 63, 64, 65}
	told := map[ending]int{}
	for range 40000 {
		x := Task{D: make([]int, depths[pick(len(depths))]), R: make([]int, depths[pick(len(depths))]), P: at(pick(3), pick(3))}
		for k := range x.D {
			x.D[k] = numbers[pick(len(numbers))]
		}
		for k := range x.R {
			x.R[k] = numbers[pick(len(numbers))]
		}
		if n := len(x.R); pick(3) > 0 && n > 0 {
			x.H = []int{3, n, n - 1, max(n-4, 0)}[pick(4)]
			x.R[n-1] = -1 - pick(2)
		}
		c := all[pick(len(all))]
		if pick(4) == 0 {
			c = call{"Leave", 0, 0}
		}
		got := check(t, x, c)
		told[ending{c.name, got.e, got.b}]++
		if !Sane(got.t) {
			t.Fatal(c, x, "is not sane")
		}
	}
	for _, want := range []ending{{"Leave", -3, false}, {"Leave", -9, false}, {"Leave", -6, false}, {"Leave", 0, true}, {"Leave", 0, false}, {"Throw", 0, true}, {"Throw", 0, false}, {"Enter", -5, false}, {"Catch", -5, false}, {"Next", 0, true}, {"Next", 0, false}} {
		if told[want] == 0 {
			t.Error(want, "is never told")
		}
	}
}

// Rows of calls, one after another, from a task at its beginning.
func TestRows(t *testing.T) {
	numbers := []int{-1, 0, 1, 2, 3, 4097, 8192}
	all := calls(numbers)
	seed := uint64(7)
	pick := func(n int) int {
		seed = seed*6364136223846793005 + 1442695040888963407
		return int(seed>>33) % n
	}
	for range 300 {
		x := New(at(1, 1))
		for range 60 {
			c := all[pick(len(all))]
			if pick(2) == 0 {
				c.name = []string{"Catch", "Leave", "Throw", "Enter"}[pick(4)]
			}
			got := check(t, x, c)
			if c.name != "Index" {
				x = got.t
			}
			if len(x.D) < 64 && pick(3) == 0 {
				x.D = append(slices.Clone(x.D), pick(100))
			}
		}
	}
}

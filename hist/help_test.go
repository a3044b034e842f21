package hist

import (
	"math"
	"slices"
	"testing"

	"tenterhook/api"
)

const (
	least    = math.MinInt
	greatest = math.MaxInt
)

// ev is a history: of each event four numbers, its task, kind, object and value. There is room behind its end.
func ev(l ...int) []api.Event {
	out := make([]api.Event, 0, len(l)/4+3)
	for k := 0; k < len(l); k += 4 {
		out = append(out, api.Event{Task: l[k], Kind: l[k+1], At: l[k+2], Val: l[k+3]})
	}
	return out
}

// told is all that the calls tell of one history, one object, and one number of signals.
type told struct {
	ops     []Op
	isOps   bool
	most    int
	isLock  bool
	signals int
	isEvent bool
	pending []bool
	returns int
}

// ask asks all calls, and holds the events that they were given, and those in the room behind them, against what they were.
func ask(t *testing.T, h []api.Event, at, n int) told {
	t.Helper()
	was := slices.Clone(h[:cap(h)])
	var got told
	got.ops, got.isOps = Ops(h, at)
	got.most, got.isLock = Holders(h, at)
	got.signals, got.isEvent = Signals(h, at, n)
	got.pending = Pending(h)
	got.returns = Returns(h)
	if !slices.Equal(h[:cap(h)], was) {
		t.Errorf("%v: the events that are given are changed", was)
	}
	if !got.isOps && got.ops != nil {
		t.Errorf("%v at %d: operations beside false: %v", h, at, got.ops)
	}
	return got
}

// differ tells in which of two what is told is not alike. Lists without elements are, nil or not.
func differ(a, b told) string {
	out := ""
	for _, x := range []struct {
		name string
		same bool
	}{
		{"Ops", slices.Equal(a.ops, b.ops) && a.isOps == b.isOps},
		{"Holders", a.most == b.most && a.isLock == b.isLock},
		{"Signals", a.signals == b.signals && a.isEvent == b.isEvent},
		{"Pending", slices.Equal(a.pending, b.pending)},
		{"Returns", a.returns == b.returns},
	} {
		if !x.same {
			out += " " + x.name
		}
	}
	return out
}

// follow holds all that is told against the model.
func follow(t *testing.T, h []api.Event, at, n int) told {
	t.Helper()
	got, want := ask(t, h, at, n), model(h, at, n)
	if d := differ(got, want); d != "" {
		t.Fatalf("%v at %d from %d:%s: told %+v, not %+v", h, at, n, d, got, want)
	}
	apart(t, got)
	return got
}

// apart asks that operations of one task do not overlap, but for those that have no return.
func apart(t *testing.T, got told) {
	t.Helper()
	for k, o := range got.ops {
		if o.To >= 0 && o.To <= o.From {
			t.Fatalf("%+v returned ahead of its call", o)
		}
		for _, u := range got.ops[k+1:] {
			if u.From <= o.From || u.Task == o.Task && o.To >= u.From {
				t.Fatalf("%+v stands ahead of %+v", o, u)
			}
		}
	}
}

// mix tells numbers below n that look like any, always the same ones.
type mix uint64

func (x *mix) below(n int) int {
	*x = *x*6364136223846793005 + 1442695040888963407
	return int(uint64(*x) >> 33 % uint64(n))
}

// of picks one of some.
func (x *mix) of(l ...int) int { return l[x.below(len(l))] }

package guard

import (
	"bytes"
	"encoding/binary"
	"fmt"
	"math"
	"slices"
	"testing"

	"tenterhook/api"
	"tenterhook/mem"
)

const (
	least = math.MinInt
	most  = math.MaxInt
)

// task and within are a task outside the library, and one within it.
func task(n int) Who { return Who{Task: n} }

func within(n int) Who { return Who{Task: n, Lib: true} }

// all are tasks of each kind: the host, those that have an area, and those that have none.
func all() []Who {
	var out []Who
	for _, n := range []int{least, -2, -1, 0, 1, 2, 3, 4, 5, 6, 7, 8, 9, most} {
		out = append(out, task(n), within(n))
	}
	return out
}

// places are places at the ends of all regions and near them, and such as are nowhere.
func places() []int {
	out := []int{least, least + 1, -5120, -2048, -128, -9, most - 8, most - 7, most - 1, most, 1 << 32, 1<<62 + 4096}
	for _, end := range []int{0, 2048, 4096, 4224, 4352, 4480, 4608, 4736, 4864, 4992, 5120} {
		for d := -9; d <= 9; d++ {
			out = append(out, end+d)
		}
	}
	return out
}

// counts are numbers of bytes.
func counts() []int {
	return []int{least, -1, 0, 1, 2, 7, 8, 9, 127, 128, 129, 2047, 2048, 2049, 2176, 4096, 5119, 5120, 5121, most - 1, most}
}

// modelMay is P12.2 written out: every byte is asked for, and each region by its bounds.
func modelMay(w Who, at, n int, write bool) bool {
	if n < 0 || at < 0 || at > 5120 || n > 5120-at {
		return false
	}
	if w.Task == -1 {
		return true
	}
	for p := at; p < at+n; p++ {
		ok := false
		switch {
		case p < 2048:
			ok = !write
		case p < 4096:
			ok = w.Lib
		default:
			ok = w.Task >= 0 && w.Task < 8 && p >= 4096+128*w.Task && p < 4096+128*w.Task+128
		}
		if !ok {
			return false
		}
	}
	return true
}

// some is a memory of n bytes that are told apart.
func some(n int) []byte {
	out := make([]byte, n)
	for k := range out {
		out[k] = byte(k*7 + k/256)
	}
	return out
}

// roomy is a memory of n bytes, with room behind its end in which other bytes lie.
func roomy(n int) []byte { return some(n + 40)[:n] }

// whole is a memory with what lies in its room.
func whole(m []byte) []byte { return slices.Clone(m[:cap(m)]) }

// kept tells if a call changed a memory, or what lies in its room.
func kept(t *testing.T, what string, m, was []byte) {
	t.Helper()
	if !bytes.Equal(whole(m), was) {
		t.Errorf("%s changed the memory that was handed in", what)
	}
}

func mays(t *testing.T, w Who, at, n int, write, want bool) {
	t.Helper()
	if got := May(w, at, n, write); got != want {
		t.Errorf("May(%v, %d, %d, %v) = %v", w, at, n, write, got)
	}
}

// mayBoth asks what holds if it is read and if it is written.
func mayBoth(t *testing.T, w Who, at, n int, want bool) {
	t.Helper()
	mays(t, w, at, n, false, want)
	mays(t, w, at, n, true, want)
}

func reads(t *testing.T, m []byte, w Who, at, want int, th api.Throw) {
	t.Helper()
	was := whole(m)
	if got, e := Read(m, w, at); got != want || e != th {
		t.Errorf("Read(%d bytes, %v, %d) = %d, %d, not %d, %d", len(m), w, at, got, int(e), want, int(th))
	}
	kept(t, "Read", m, was)
}

// writes writes a cell that may be written, and answers the memory with it.
func writes(t *testing.T, m []byte, w Who, at, x int) []byte {
	t.Helper()
	was := whole(m)
	out, e := Write(m, w, at, x)
	if e != api.OK {
		t.Fatalf("Write(%d bytes, %v, %d, %d): throw %d", len(m), w, at, x, int(e))
	}
	kept(t, "Write", m, was)
	want := slices.Clone(m)
	binary.LittleEndian.PutUint64(want[at:], uint64(x))
	if !bytes.Equal(out, want) {
		t.Errorf("Write(%d bytes, %v, %d, %d): not just that cell is another one", len(m), w, at, x)
	}
	return out
}

func writesNot(t *testing.T, m []byte, w Who, at int, th api.Throw) {
	t.Helper()
	was := whole(m)
	out, e := Write(m, w, at, 0x1122334455667788)
	if e != th || !bytes.Equal(out, m) || (out == nil) != (m == nil) {
		t.Errorf("Write(%d bytes, %v, %d) = %d bytes, throw %d, not %d and the memory as it was", len(m), w, at, len(out), int(e), int(th))
	}
	kept(t, "Write", m, was)
}

// P12.1

func TestUserAt(t *testing.T) {
	for n, want := range []int{4096, 4224, 4352, 4480, 4608, 4736, 4864, 4992} {
		if at, ok := UserAt(n); at != want || !ok {
			t.Errorf("UserAt(%d) = %d, %v", n, at, ok)
		}
	}
	for _, n := range []int{-1, 8, -2, 9, -8, 16, 128, 4096, least, least + 1, most, most - 1, 1 << 57, 1 << 61, -1 << 57} {
		if at, ok := UserAt(n); at != 0 || ok {
			t.Errorf("UserAt(%d) = %d, %v", n, at, ok)
		}
	}
}

func TestRegion(t *testing.T) {
	for _, x := range []struct{ first, last, kind, task int }{
		{0, 2047, 0, -1}, {2048, 4095, 1, -1},
		{4096, 4223, 2, 0}, {4224, 4351, 2, 1}, {4352, 4479, 2, 2}, {4480, 4607, 2, 3},
		{4608, 4735, 2, 4}, {4736, 4863, 2, 5}, {4864, 4991, 2, 6}, {4992, 5119, 2, 7},
		{-300, -1, -1, -1}, {5120, 5400, -1, -1}, {least, least + 3, -1, -1}, {most - 3, most - 1, -1, -1}, {most, most, -1, -1},
	} {
		for d := range x.last - x.first + 1 {
			if kind, n := Region(x.first + d); kind != x.kind || n != x.task {
				t.Errorf("Region(%d) = %d, %d", x.first+d, kind, n)
			}
		}
	}
}

// Where an area begins, its task's region does, and it ends 128 bytes behind.
func TestAreasAreTheTasks(t *testing.T) {
	for n := range api.MaxTasks {
		at, _ := UserAt(n)
		for d := range api.UserSize {
			if kind, whose := Region(at + d); kind != 2 || whose != n {
				t.Errorf("Region(%d) = %d, %d", at+d, kind, whose)
			}
		}
	}
}

// P12.2

func TestMayOfTheData(t *testing.T) {
	for _, w := range []Who{task(0), within(0), task(1), within(7), task(8), within(-2), task(least), within(most)} {
		mays(t, w, 0, 1, false, true)
		mays(t, w, 0, 1, true, false)
		mays(t, w, 2047, 1, false, true)
		mays(t, w, 2047, 1, true, false)
		mays(t, w, 0, 2048, false, true)
		mays(t, w, 0, 2048, true, false)
		mays(t, w, 1000, 8, false, true)
		mays(t, w, 1000, 8, true, false)
		mayBoth(t, w, 0, 0, true)
		mayBoth(t, w, 2048, 0, true)
	}
	mays(t, task(1), 0, 2049, false, false)
	mays(t, within(1), 0, 2049, false, true)
	mays(t, within(1), 0, 2049, true, false)
}

func TestMayOfTheHeap(t *testing.T) {
	for _, n := range []int{0, 1, 7, 8, -2, least, most} {
		for _, x := range [][2]int{{2048, 1}, {4095, 1}, {2048, 2048}, {3000, 8}} {
			mayBoth(t, task(n), x[0], x[1], false)
			mayBoth(t, within(n), x[0], x[1], true)
		}
		mayBoth(t, task(n), 3000, 0, true)
		mays(t, within(n), 2047, 2, false, true)
		mays(t, within(n), 2047, 2, true, false)
		mayBoth(t, task(n), 2047, 2, false)
		mayBoth(t, within(n), 4095, 2, n == 0)
	}
}

func TestMayOfUsersAreas(t *testing.T) {
	for n := range 8 {
		at := 4096 + 128*n
		for _, w := range []Who{task(n), within(n)} {
			mayBoth(t, w, at, 1, true)
			mayBoth(t, w, at+127, 1, true)
			mayBoth(t, w, at, 128, true)
			mayBoth(t, w, at, 129, false)
			mayBoth(t, w, at+120, 8, true)
			mayBoth(t, w, at+121, 8, false)
			mayBoth(t, w, at+128, 0, true)
			mayBoth(t, w, at+127, 2, false)
		}
		mayBoth(t, task(n), at-1, 2, false)
		mayBoth(t, within(n), at-1, 2, n == 0)
	}
	mayBoth(t, within(0), 2048, 2176, true)
	mayBoth(t, within(0), 2048, 2177, false)
	mays(t, within(0), 0, 4224, false, true)
	mays(t, within(0), 0, 4224, true, false)
	mays(t, within(0), 0, 4225, false, false)
}

// Tasks that have no area may not touch those of others, though what would be theirs might fall into them, or into the heap.
func TestMayOfTasksWithoutAnArea(t *testing.T) {
	for _, n := range []int{-2, -3, -16, 8, 9, 1 << 57, -1 << 57, least, most} {
		for at := 4096; at < 5120; at++ {
			mayBoth(t, task(n), at, 1, false)
			mayBoth(t, within(n), at, 1, false)
		}
		mayBoth(t, task(n), 4095, 1, false)
		mayBoth(t, task(n), 4096, 0, true)
		mays(t, task(n), 9, 9, false, true)
	}
}

func TestMayOfTheHost(t *testing.T) {
	for _, w := range []Who{task(-1), within(-1)} {
		mayBoth(t, w, 0, 5120, true)
		for _, end := range []int{2048, 4096, 4224, 4992} {
			mayBoth(t, w, end-8, 16, true)
			mayBoth(t, w, end, 1, true)
		}
		for at := range 5120 {
			mayBoth(t, w, at, 1, true)
		}
		mayBoth(t, w, 0, 5121, false)
		mayBoth(t, w, 5120, 0, true)
		mayBoth(t, w, 5120, 1, false)
		mayBoth(t, w, -1, 0, false)
		mayBoth(t, w, -1, 1, false)
		mayBoth(t, w, 5121, 0, false)
		mayBoth(t, w, 0, -1, false)
		mayBoth(t, w, 5120, -1, false)
		mayBoth(t, w, 5121, -1, false)
	}
}

// Bytes that are nowhere, or fewer than none, are asked for ahead of all others: no one may touch them.
func TestMayOfNowhere(t *testing.T) {
	for _, w := range all() {
		for _, x := range [][2]int{
			{-1, 0}, {-1, 1}, {-1, -1}, {-8, 8}, {5121, 0}, {5121, 1}, {5121, -1}, {5120, 1}, {5119, 2}, {5113, 8}, {5112, 9},
			{0, -1}, {2048, -1}, {4096, least}, {5120, -1}, {0, 5121}, {1, 5120}, {1, most}, {8, most - 8}, {5120, most}, {0, most},
			{least, 0}, {least, least}, {least, most}, {least, 1}, {most, 0}, {most, 1}, {most, most}, {most, least}, {most - 7, 8},
		} {
			mayBoth(t, w, x[0], x[1], false)
		}
		mayBoth(t, w, 5120, 0, true)
		mayBoth(t, w, 0, 0, true)
		mayBoth(t, w, 5119, 0, true)
		mayBoth(t, w, 5119, 1, w.Task == 7 || w.Task == -1)
	}
}

func TestMayAsTheModel(t *testing.T) {
	for _, w := range all() {
		for _, at := range places() {
			for _, n := range counts() {
				mays(t, w, at, n, false, modelMay(w, at, n, false))
				mays(t, w, at, n, true, modelMay(w, at, n, true))
			}
		}
	}
}

// P12.3

func TestReadAndWriteInEachRegion(t *testing.T) {
	m := mem.New(api.MemSize)
	host, one, lib := task(-1), task(1), within(1)
	m = writes(t, m, host, 16, 258)
	m = writes(t, m, host, 2040, -1)
	m = writes(t, m, host, 3000, least)
	m = writes(t, m, within(-1), 4096, most)
	m = writes(t, m, lib, 2048, -5)
	m = writes(t, m, lib, 4088, 6)
	m = writes(t, m, one, 4224, 77)
	m = writes(t, m, one, 4344, -78)
	m = writes(t, m, lib, 4232, 79)
	m = writes(t, m, task(0), 4104, 80)
	m = writes(t, m, task(7), 5112, 81)

	for _, x := range []struct{ at, want int }{{16, 258}, {2040, -1}, {3000, least}, {4096, most}, {2048, -5}, {4088, 6}, {4224, 77}, {4344, -78}, {4232, 79}, {4104, 80}, {5112, 81}, {8, 0}} {
		reads(t, m, host, x.at, x.want, api.OK)
	}
	reads(t, m, one, 16, 258, api.OK)
	reads(t, m, task(9), 2040, -1, api.OK)
	reads(t, m, lib, 3000, least, api.OK)
	reads(t, m, within(-7), 2048, -5, api.OK)
	reads(t, m, one, 4224, 77, api.OK)
	reads(t, m, lib, 4232, 79, api.OK)
	reads(t, m, task(0), 4096, most, api.OK)
	reads(t, m, task(7), 5112, 81, api.OK)

	m = writes(t, m, one, 4224, 78)
	reads(t, m, one, 4224, 78, api.OK)
}

func TestReadAndWriteWhereNoneMay(t *testing.T) {
	m := some(api.MemSize)
	for _, x := range []struct {
		w  Who
		at int
	}{
		{task(1), 2048}, {task(1), 4088}, {task(1), 4096}, {task(1), 4216}, {within(1), 4216}, {task(1), 4352}, {within(1), 5112},
		{task(8), 5112}, {within(8), 4096}, {task(-2), 4096}, {task(least), 4096}, {task(most), 2048},
		{task(-1), -1}, {task(-1), -8}, {task(-1), 5113}, {task(-1), 5120}, {within(-1), 5121}, {task(-1), least}, {task(-1), most}, {task(-1), most - 7},
		{task(1), -8}, {task(7), 5120}, {within(3), least}, {within(3), most},
	} {
		reads(t, m, x.w, x.at, 0, api.Address)
		writesNot(t, m, x.w, x.at, api.Address)
	}
	for _, at := range []int{0, 8, 1000, 2040} {
		writesNot(t, m, task(1), at, api.Address)
		writesNot(t, m, within(1), at, api.Address)
		writesNot(t, m, task(9), at, api.Address)
	}
}

// Whether it may be is asked first; mem asks for a multiple of eight last.
func TestWhichThrowIsTold(t *testing.T) {
	m := some(api.MemSize)
	for _, x := range []struct {
		w           Who
		at          int
		read, write api.Throw
	}{
		{task(1), 4, api.Align, api.Address}, {task(1), 1, api.Align, api.Address}, {task(1), 2040, api.OK, api.Address},
		{task(1), 2041, api.Address, api.Address}, {within(1), 2041, api.Align, api.Address},
		{task(1), 2049, api.Address, api.Address}, {within(1), 2049, api.Align, api.Align}, {within(1), 4087, api.Align, api.Align},
		{within(1), 4092, api.Address, api.Address}, {within(0), 4092, api.Align, api.Align}, {task(0), 4092, api.Address, api.Address},
		{task(1), 4228, api.Align, api.Align}, {task(1), 4343, api.Align, api.Align}, {task(1), 4345, api.Address, api.Address}, {task(1), 4220, api.Address, api.Address},
		{task(-1), 4, api.Align, api.Align}, {task(-1), 5111, api.Align, api.Align}, {task(-1), 5113, api.Address, api.Address}, {task(-1), -4, api.Address, api.Address},
		{task(0), 4100, api.Align, api.Align}, {task(7), 5108, api.Align, api.Align}, {task(8), 5108, api.Address, api.Address},
	} {
		want := 0
		if x.read == api.OK {
			want = int(binary.LittleEndian.Uint64(m[x.at:]))
		}
		reads(t, m, x.w, x.at, want, x.read)
		if x.write != api.OK {
			writesNot(t, m, x.w, x.at, x.write)
		}
	}
}

// A memory may have fewer bytes than MemSize: what is not there is mem's Address, for the host too; or more: no one may touch them.
func TestOtherMemories(t *testing.T) {
	for _, n := range []int{0, 1, 7} {
		for _, w := range all() {
			reads(t, roomy(n), w, 0, 0, api.Address)
			writesNot(t, roomy(n), w, 0, api.Address)
		}
	}
	for _, w := range all() {
		reads(t, nil, w, 0, 0, api.Address)
		writesNot(t, nil, w, 0, api.Address)
		reads(t, nil, w, 4096, 0, api.Address)
		writesNot(t, nil, w, 4096, api.Address)
		reads(t, []byte{}, w, -8, 0, api.Address)
	}
	m := roomy(100)
	reads(t, m, task(-1), 96, 0, api.Address)
	writesNot(t, m, task(-1), 96, api.Address)
	reads(t, m, task(-1), 92, 0, api.Align)
	writesNot(t, m, task(-1), 92, api.Align)
	reads(t, m, task(-1), 93, 0, api.Address)
	writesNot(t, m, task(-1), 100, api.Address)
	reads(t, m, task(1), 88, int(binary.LittleEndian.Uint64(m[88:])), api.OK)
	writes(t, m, task(-1), 88, -3)

	long := roomy(6000)
	reads(t, long, task(-1), 5120, 0, api.Address)
	reads(t, long, task(-1), 5116, 0, api.Address)
	writesNot(t, long, task(-1), 5120, api.Address)
	writesNot(t, long, task(7), 5116, api.Address)
	writes(t, long, task(7), 5112, 9)
}

// Two cells that are written into one memory do not come into each other.
func TestWritesIntoOneMemory(t *testing.T) {
	m := roomy(api.MemSize)
	a := writes(t, m, task(1), 4224, 1)
	b := writes(t, m, task(1), 4232, 2)
	reads(t, a, task(1), 4224, 1, api.OK)
	reads(t, b, task(1), 4232, 2, api.OK)
	reads(t, b, task(1), 4224, int(binary.LittleEndian.Uint64(m[4224:])), api.OK)
}

func TestReadAndWriteAsTheModel(t *testing.T) {
	for _, size := range []int{0, 9, 2050, 4228, api.MemSize} {
		m := roomy(size)
		for _, w := range all() {
			for _, at := range places() {
				want, th := 0, api.Address
				if modelMay(w, at, 8, false) {
					want, th = mem.Get(m, at)
				}
				reads(t, m, w, at, want, th)
				asked(t, m, w, at)
			}
		}
	}
}

// asked holds Write of a cell against May and mem.Put.
func asked(t *testing.T, m []byte, w Who, at int) {
	t.Helper()
	_, th := mem.Put(m, at, 5)
	if !modelMay(w, at, 8, true) {
		th = api.Address
	}
	if th != api.OK {
		writesNot(t, m, w, at, th)
		return
	}
	reads(t, writes(t, m, w, at, 5), task(-1), at, 5, api.OK)
}

// P12.4

func TestNoTaskTouchesAnothersArea(t *testing.T) {
	for n := range 8 {
		at, _ := UserAt(n)
		for _, w := range all() {
			if w.Task == n || w.Task == -1 {
				continue
			}
			for p := at; p < at+128; p++ {
				mayBoth(t, w, p, 1, false)
			}
			m := some(api.MemSize)
			for p := at; p < at+128; p += 8 {
				reads(t, m, w, p, 0, api.Address)
				writesNot(t, m, w, p, api.Address)
			}
		}
	}
}

func TestWhatMayBeWrittenMayBeRead(t *testing.T) {
	for _, w := range all() {
		for _, at := range places() {
			for _, n := range counts() {
				if May(w, at, n, true) && !May(w, at, n, false) {
					t.Errorf("%v may write %d bytes at %d, and may not read them", w, n, at)
				}
			}
		}
		m := roomy(api.MemSize)
		for at := 0; at < api.MemSize; at += 8 {
			if out, e := Write(m, w, at, at-77); e == api.OK {
				reads(t, out, w, at, at-77, api.OK)
			}
		}
	}
}

// P1

func TestEveryCallEnds(t *testing.T) {
	numbers := []int{least, least + 1, -1 << 32, -129, -8, -1, 0, 1, 8, 4096, 5119, 5120, 5121, 1 << 32, most - 8, most}
	for _, n := range numbers {
		UserAt(n)
		Region(n)
		for _, at := range numbers {
			for _, some := range [][]byte{nil, {}, {1, 2, 3}, mem.New(most)} {
				what := fmt.Sprint(n, at, len(some))
				if _, e := Read(some, within(n), at); e == api.OK && len(some) == 0 {
					t.Error("Read of no memory", what)
				}
				if _, e := Write(some, task(n), at, n); e == api.OK && len(some) == 0 {
					t.Error("Write into no memory", what)
				}
			}
			for _, k := range numbers {
				mays(t, task(n), at, k, false, modelMay(task(n), at, k, false))
				mays(t, task(n), at, k, true, modelMay(task(n), at, k, true))
			}
		}
	}
}

package outer

import (
	"encoding/binary"
	"slices"

	"tenterhook/api"
	"tenterhook/dict"
	"tenterhook/flow"
	"tenterhook/num"
	"tenterhook/op"
	"tenterhook/ret"
	"tenterhook/scan"
	"tenterhook/step"
)

// machine does what the document tells, word by word, in memory of its own: what is thrown is a panic that ends what is done.
type machine struct {
	Sys
	src scan.Src
}

// copied shares no list with s, but for those that nobody writes to.
func copied(s Sys) Sys {
	s.P.Threads, s.P.Words = slices.Clone(s.P.Threads), slices.Clone(s.P.Words)
	s.S.T.D, s.S.T.R = slices.Clone(s.S.T.D), slices.Clone(s.S.T.R)
	s.S.M, s.S.Hist = slices.Clone(s.S.M), slices.Clone(s.S.Hist)
	s.B.Code, s.B.Marks, s.B.Outs = slices.Clone(s.B.Code), slices.Clone(s.B.Marks), slices.Clone(s.B.Outs)
	return s
}

// attempt is what f makes of a system and a text, or both as they were, and the throw that f panics with.
func attempt(s Sys, src scan.Src, f func(v *machine)) (out Sys, to scan.Src, e api.Throw) {
	v := &machine{copied(s), src}
	defer func() {
		switch x := recover().(type) {
		case nil:
		case api.Throw:
			out, to, e = s, src, x
		default:
			panic(x)
		}
	}()
	f(v)
	return v.Sys, v.src, 0
}

func must(ok bool, e api.Throw) {
	if !ok {
		panic(e)
	}
}

// modelNew is P15.1.
func modelNew() Sys {
	s := Sys{S: step.State{M: make([]byte, 5120), Me: -1, T: ret.Task{R: []int{-2}}}}
	for k := 4096; k < 5120; k += 128 {
		s.S.M[k] = 10
	}
	for o := range op.Count {
		if !op.Hidden(o) {
			s.P.Words = append(s.P.Words, dict.Entry{Name: op.Name(o), Val: o})
		}
	}
	return s
}

func modelSane(s Sys) bool {
	if s.Def.Name == "" {
		if s.Comp || s.Def != (dict.Entry{}) {
			return false
		}
	} else if !dict.Sane(s.Def) {
		return false
	}
	return s.S.Me == -1 && len(s.S.M) == 5120 && ret.Sane(s.S.T) && flow.Sane(s.B) && 0 <= s.Here && s.Here <= 2048 && len(s.P.Words) < 513 && len(s.P.Threads) < 1001
}

func modelTaken(s Sys) Sys {
	if modelSane(s) {
		return s
	}
	return modelNew()
}

// modelEval is P15.4.
func modelEval(s Sys, text string) (Sys, api.Throw) {
	s = modelTaken(s)
	src := scan.Src{S: text}
	for {
		var e api.Throw
		var more bool
		s, src, more, e = modelWord(s, src)
		switch {
		case e != 0:
			s.S.T = ret.Task{R: []int{-2}}
			s.Comp, s.B, s.Def = false, flow.Build{}, dict.Entry{}
			return s, e
		case !more:
			return s, 0
		}
	}
}

// modelDo is P15.2.
func modelDo(s Sys, src scan.Src, l []api.Ins) (Sys, scan.Src, api.Throw) {
	s = copied(modelTaken(s))
	n := len(s.P.Threads)
	s.P.Threads = append(s.P.Threads, append(slices.Clone(l), api.Ins{Op: op.Exit}))
	s.S.T = ret.Task{D: s.S.T.D, R: []int{-2}, P: api.Place{Th: n}}
	e := api.Throw(-28)
	for range 4000 {
		var r step.Res
		s.S, r = step.Step(s.P, s.S)
		if r.Kind == step.Asks {
			s, src, r = modelAsked(s, src, r.N)
		}
		if r.Kind == step.Ended || r.Kind == step.Died {
			e = api.Throw(r.N)
			break
		}
	}
	s.P.Threads = s.P.Threads[:n:n]
	s.S.T = ret.Task{D: s.S.T.D, R: []int{-2}}
	return s, src, e
}

// modelAsked is P15.5, and what comes of it.
func modelAsked(s Sys, src scan.Src, o int) (Sys, scan.Src, step.Res) {
	var r step.Res
	s, src, e := attempt(s, src, func(v *machine) {
		if v.host(op.Name(o)) {
			r.Kind = step.Ended
		}
	})
	if e != 0 {
		s.S, r = step.Throw(s.P, s.S, e)
	}
	return s, src, r
}

func (v *machine) host(name string) (ended bool) {
	last := len(v.P.Words) - 1
	switch name {
	case "CREATE":
		w := v.name()
		for v.Here%8 != 0 {
			v.Here++
		}
		v.add(dict.Entry{Name: w, Kind: dict.Var, Val: v.Here})
	case "(DOES)":
		must(last >= 0 && v.P.Words[last].Kind == dict.Var, -22)
		t, end, e := ret.Leave(v.S.T)
		must(e == 0, e)
		v.P.Words[last].Kind, v.P.Words[last].P = dict.Does, v.S.T.P
		v.S.T = t
		return end
	case "HERE":
		v.push(v.Here)
	case "ALLOT":
		n := v.pop()
		must(n >= -v.Here && n <= 2048-v.Here, -8)
		v.Here += n
	case ",":
		x := v.pop()
		at := v.room(8)
		must(at%8 == 0, -23)
		binary.LittleEndian.PutUint64(v.S.M[at:], uint64(x))
	case "COMPILE,":
		must(v.Comp, -14)
		v.layCode(v.pop())
	case "IMMEDIATE":
		must(last >= 0, -13)
		v.P.Words[last].Imm = true
	}
	return false
}

// modelWord is P15.3.
func modelWord(s Sys, src scan.Src) (Sys, scan.Src, bool, api.Throw) {
	s = modelTaken(s)
	w, rest := scan.Word(src)
	if w == "" {
		return s, rest, false, 0
	}
	var run []api.Ins
	out, to, e := attempt(s, rest, func(v *machine) { run = v.word(w) })
	if e != 0 {
		return s, src, true, e
	}
	if run != nil {
		out, to, e = modelDo(s, rest, run)
	}
	return out, to, true, e
}

// word does a word, or tells what is to be run.
func (v *machine) word(w string) (run []api.Ins) {
	name := scan.Upper(w)
	switch name {
	case "[CHAR]", "[']", ";", "DOES>", "RECURSE", "POSTPONE", "LITERAL", "[":
		must(v.Comp, -14)
	}
	switch name {
	case "(":
		v.upTo(')')
	case "\\":
		v.upTo('\n')
	case ".\"":
		s := v.upTo('"')
		if !v.Comp {
			must(len(v.S.Out)+len(s) <= 1000, -8)
			v.S.Out += s
			return nil
		}
		at := v.room(len(s))
		copy(v.S.M[at:], s)
		v.lay(lits(at, len(s))...)
		v.lay(api.Ins{Op: op.Type})
	case "S\"":
		s := v.upTo('"')
		at := v.room(len(s))
		copy(v.S.M[at:], s)
		if v.Comp {
			v.lay(lits(at, len(s))...)
		} else {
			v.push(at, len(s))
		}
	case "CHAR":
		v.push(int(v.name()[0]))
	case "[CHAR]":
		v.lay(lits(int(v.name()[0]))...)
	case "'":
		v.push(v.find())
	case "[']":
		v.lay(lits(v.find())...)
	case ":":
		must(!v.Comp, -22)
		n := scan.Upper(v.next())
		must(len(n) > 0 && len(n) < 32, -16)
		v.Def = dict.Entry{Name: n, Kind: dict.Colon, P: api.Place{Th: len(v.P.Threads)}}
		v.B, v.Comp = flow.Build{}, true
	case ";":
		must(len(v.B.Marks) == 0, -22)
		v.lay(api.Ins{Op: op.Exit})
		must(len(v.P.Threads) < 1000, -8)
		v.P.Threads = append(v.P.Threads, v.B.Code)
		v.add(v.Def)
		v.Comp, v.B, v.Def = false, flow.Build{}, dict.Entry{}
	case "CONSTANT":
		n := v.name()
		v.add(dict.Entry{Name: n, Kind: dict.Con, Val: v.pop()})
	case "VARIABLE":
		n := v.name()
		for v.Here%8 != 0 {
			v.Here++
		}
		at := v.room(8)
		clear(v.S.M[at : at+8])
		v.add(dict.Entry{Name: n, Kind: dict.Var, Val: at})
	case "DOES>":
		must(len(v.B.Marks) == 0, -22)
		v.lay(api.Ins{Op: op.Does})
	case "RECURSE":
		v.lay(api.Ins{Op: op.Call, Arg: dict.Addr(v.Def.P)})
	case "POSTPONE":
		if i := v.find(); v.P.Words[i].Imm {
			v.layCode(i)
		} else {
			v.lay(append(lits(i), api.Ins{Op: op.Compile})...)
		}
	case "LITERAL":
		v.lay(lits(v.pop())...)
	case "[":
		v.Comp = false
	case "]":
		must(v.Def.Name != "", -22)
		v.Comp = true
	case "IF", "ELSE", "THEN", "BEGIN", "AGAIN", "UNTIL", "WHILE", "REPEAT", "DO", "?DO", "LOOP", "+LOOP", "LEAVE":
		must(v.Comp, -14)
		b, _, e := flow.Word(v.B, name)
		must(e == 0, e)
		v.B = b
	default:
		return v.other(w, name)
	}
	return nil
}

// other does what is found, or is a number.
func (v *machine) other(w, name string) []api.Ins {
	for i := len(v.P.Words) - 1; i >= 0; i-- {
		if v.P.Words[i].Name != name {
			continue
		}
		if v.Comp && !v.P.Words[i].Imm {
			v.layCode(i)
			return nil
		}
		code, ok := dict.Code(v.P.Words, i)
		must(ok, -13)
		return code
	}
	base := binary.LittleEndian.Uint64(v.S.M[4992:])
	must(base >= 2 && base <= 36, -24)
	x, ok := num.Parse(w, int(base))
	must(ok, -13)
	if v.Comp {
		v.lay(lits(x...)...)
	} else {
		v.push(x...)
	}
	return nil
}

// lits are what lays cells.
func lits(x ...int) []api.Ins {
	var out []api.Ins
	for _, n := range x {
		out = append(out, api.Ins{Op: op.Lit, Arg: n})
	}
	return out
}

func (v *machine) next() string {
	w, src := scan.Word(v.src)
	v.src = src
	return w
}

func (v *machine) name() string {
	w := v.next()
	must(w != "", -16)
	return w
}

func (v *machine) find() int {
	w := scan.Upper(v.name())
	for i := len(v.P.Words) - 1; i >= 0; i-- {
		if v.P.Words[i].Name == w {
			return i
		}
	}
	panic(api.Throw(-13))
}

func (v *machine) upTo(c int) string {
	s, src := scan.Parse(v.src, c)
	v.src = src
	return s
}

func (v *machine) lay(l ...api.Ins) {
	must(len(v.B.Code)+len(l) <= 4096, -8)
	v.B.Code = append(v.B.Code, l...)
}

func (v *machine) layCode(i int) {
	code, ok := dict.Code(v.P.Words, i)
	must(ok, -13)
	v.lay(code...)
}

func (v *machine) push(x ...int) {
	must(len(v.S.T.D)+len(x) <= 64, -3)
	v.S.T.D = append(v.S.T.D, x...)
}

func (v *machine) pop() int {
	n := len(v.S.T.D)
	must(n > 0, -4)
	x := v.S.T.D[n-1]
	v.S.T.D = v.S.T.D[:n-1]
	return x
}

func (v *machine) room(n int) int {
	at := v.Here
	must(at+n <= 2048, -8)
	v.Here += n
	return at
}

func (v *machine) add(w dict.Entry) {
	w.Name = scan.Upper(w.Name)
	must(len(w.Name) < 32, -16)
	must(len(v.P.Words) < 512, -8)
	v.P.Words = append(v.P.Words, w)
}

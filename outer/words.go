package outer

import (
	"slices"

	"tenterhook/api"
	"tenterhook/cell"
	"tenterhook/dict"
	"tenterhook/flow"
	"tenterhook/mem"
	"tenterhook/num"
	"tenterhook/op"
	"tenterhook/pic"
	"tenterhook/scan"
	"tenterhook/step"
	"tenterhook/stk"
)

// always is what one of the interpreter's own words, in capitals, does within a definition or not; nil, if it is none of these.
func always(name string) func(*reader) api.Throw {
	switch name {
	case "(":
		return (*reader).comment
	case "\\":
		return (*reader).lineComment
	case ".\"":
		return (*reader).printText
	case "S\"":
		return (*reader).text
	case "CHAR":
		return (*reader).char
	case "'":
		return (*reader).tick
	case ":":
		return (*reader).begin
	case "CONSTANT":
		return (*reader).constant
	case "VARIABLE":
		return (*reader).variable
	case "]":
		return (*reader).resume
	}
	return nil
}

// compiling is what one of them does that may be done within a definition alone; nil, if it is none of these.
func compiling(name string) func(*reader) api.Throw {
	switch name {
	case "[CHAR]":
		return (*reader).layChar
	case "[']":
		return (*reader).layTick
	case ";":
		return (*reader).end
	case "DOES>":
		return (*reader).does
	case "RECURSE":
		return (*reader).recurse
	case "POSTPONE":
		return (*reader).postpone
	case "LITERAL":
		return (*reader).literal
	case "[":
		return (*reader).halt
	}
	return nil
}

func (r *reader) comment() api.Throw {
	r.parse(')')
	return api.OK
}

func (r *reader) lineComment() api.Throw {
	r.parse('\n')
	return api.OK
}

func (r *reader) printText() api.Throw {
	text := r.parse('"')
	if !r.Comp {
		return r.print(text)
	}
	if e := r.keepText(text); e != api.OK {
		return e
	}
	return r.lay(api.Ins{Op: op.Type})
}

func (r *reader) text() api.Throw { return r.keepText(r.parse('"')) }

func (r *reader) char() api.Throw { return r.pushUnless(r.firstByte()) }

func (r *reader) layChar() api.Throw { return r.layUnless(r.firstByte()) }

func (r *reader) tick() api.Throw { return r.pushUnless(r.nextFound()) }

func (r *reader) layTick() api.Throw { return r.layUnless(r.nextFound()) }

func (r *reader) begin() api.Throw {
	if r.Comp {
		return api.Control
	}
	name := scan.Upper(r.next())
	if len(name) < 1 || len(name) > api.MaxName {
		return api.Nameless
	}
	r.Def = dict.Entry{Name: name, Kind: dict.Colon, P: api.Place{Th: len(r.P.Threads)}}
	r.Comp, r.B = true, flow.Build{}
	return api.OK
}

func (r *reader) end() api.Throw {
	thread, e := flow.End(r.B)
	if e != api.OK {
		return e
	}
	if len(r.P.Threads) >= mostThreads {
		return api.Full
	}
	r.P.Threads = slices.Concat(r.P.Threads, [][]api.Ins{thread})
	def := r.Def
	r.Comp, r.B, r.Def = false, flow.Build{}, dict.Entry{}
	return r.add(def)
}

func (r *reader) constant() api.Throw {
	name, e := r.nextNamed()
	if e != api.OK {
		return e
	}
	x, e := r.pop()
	if e != api.OK {
		return e
	}
	return r.add(dict.Entry{Name: name, Kind: dict.Con, Val: x})
}

func (r *reader) variable() api.Throw {
	at, e := r.addVar(api.CellSize)
	if e != api.OK {
		return e
	}
	r.S.M, e = mem.Put(r.S.M, at, 0)
	return e
}

func (r *reader) does() api.Throw {
	if len(r.B.Marks) > 0 {
		return api.Control
	}
	return r.lay(api.Ins{Op: op.Does})
}

func (r *reader) recurse() api.Throw {
	return r.lay(api.Ins{Op: op.Call, Arg: dict.Addr(r.Def.P)})
}

func (r *reader) postpone() api.Throw {
	i, e := r.nextFound()
	if e != api.OK {
		return e
	}
	if !r.P.Words[i].Imm {
		return r.lay(lit(i), api.Ins{Op: op.Compile})
	}
	return r.layWord(i)
}

func (r *reader) literal() api.Throw { return r.layUnless(r.pop()) }

func (r *reader) halt() api.Throw {
	r.Comp = false
	return api.OK
}

func (r *reader) resume() api.Throw {
	if r.Def.Name == "" {
		return api.Control
	}
	r.Comp = true
	return api.OK
}

// number lays, or pushes, what a word is that is nothing else.
func (r *reader) number(w string) api.Throw {
	base, e := pic.Base(r.S.M, step.User(host))
	if e != api.OK {
		return e
	}
	// The word as it stands, not in capitals: a byte between two quotes is to be that one.
	x, ok := num.Parse(w, base)
	if !ok {
		return api.Undefined
	}
	return r.give(x...)
}

// next is the next word.
func (r *reader) next() string {
	w, src := scan.Word(r.src)
	r.src = src
	return w
}

// nextNamed is the next word, which is to be there.
func (r *reader) nextNamed() (string, api.Throw) {
	w := r.next()
	if w == "" {
		return "", api.Nameless
	}
	return w, api.OK
}

// nextFound is where the next word is found.
func (r *reader) nextFound() (int, api.Throw) {
	w, e := r.nextNamed()
	if e != api.OK {
		return 0, e
	}
	i, ok := dict.Find(r.P.Words, w)
	if !ok {
		return 0, api.Undefined
	}
	return i, api.OK
}

// firstByte is that of the next word.
func (r *reader) firstByte() (int, api.Throw) {
	w, e := r.nextNamed()
	if e != api.OK {
		return 0, e
	}
	return int(w[0]), api.OK
}

// parse is the text up to a delimiter.
func (r *reader) parse(delim int) string {
	text, src := scan.Parse(r.src, delim)
	r.src = src
	return text
}

// lit is the instruction that lays a cell.
func lit(x int) api.Ins { return api.Ins{Op: op.Lit, Arg: x} }

// lay is with more in the thread that is built.
func (r *reader) lay(l ...api.Ins) (e api.Throw) {
	r.B, e = flow.Emit(r.B, l...)
	return e
}

// layUnless lays a cell as a Lit, unless what it came of was thrown.
func (r *reader) layUnless(x int, e api.Throw) api.Throw {
	if e != api.OK {
		return e
	}
	return r.lay(lit(x))
}

// layWord lays what is laid of a word of the dictionary.
func (r *reader) layWord(i int) api.Throw {
	code, ok := dict.Code(r.P.Words, i)
	if !ok {
		return api.Undefined
	}
	return r.lay(code...)
}

// push is with more on the data stack.
func (r *reader) push(x ...int) (e api.Throw) {
	r.S.T.D, e = stk.Push(r.S.T.D, api.MaxData, x...)
	return e
}

// pushUnless pushes a cell, unless what it came of was thrown.
func (r *reader) pushUnless(x int, e api.Throw) api.Throw {
	if e != api.OK {
		return e
	}
	return r.push(x)
}

// pop takes the top of the data stack.
func (r *reader) pop() (int, api.Throw) {
	d, x, e := stk.Pop(r.S.T.D, 1)
	if e != api.OK {
		return 0, e
	}
	r.S.T.D = d
	return x[0], api.OK
}

// give lays cells as Lits within a definition, and pushes them else.
func (r *reader) give(x ...int) api.Throw {
	if !r.Comp {
		return r.push(x...)
	}
	lits := make([]api.Ins, len(x))
	for k, n := range x {
		lits[k] = lit(n)
	}
	return r.lay(lits...)
}

// print is with a text behind what is told.
func (r *reader) print(text string) api.Throw {
	if len(r.S.Out)+len(text) > api.MaxOut {
		return api.Full
	}
	r.S.Out += text
	return api.OK
}

// reserve is a place in the data with room for n bytes, which it goes behind.
func (r *reader) reserve(n int) (int, api.Throw) {
	at := r.Here
	if n > api.DataSize-at {
		return 0, api.Full
	}
	r.Here += n
	return at, api.OK
}

// keepText is with a text in the data; where it lies, and how long it is, are given.
func (r *reader) keepText(text string) api.Throw {
	at, e := r.reserve(len(text))
	if e != api.OK {
		return e
	}
	r.S.M = slices.Concat(r.S.M[:at], []byte(text), r.S.M[r.Here:])
	return r.give(at, len(text))
}

// add is with one more word.
func (r *reader) add(w dict.Entry) (e api.Throw) {
	r.P.Words, e = dict.Add(r.P.Words, w)
	return e
}

// addVar adds the next word as a Var, aligned, with room for n bytes; where that is.
func (r *reader) addVar(n int) (int, api.Throw) {
	name, e := r.nextNamed()
	if e != api.OK {
		return 0, e
	}
	r.Here = cell.Aligned(r.Here)
	at, e := r.reserve(n)
	if e != api.OK {
		return 0, e
	}
	return at, r.add(dict.Entry{Name: name, Kind: dict.Var, Val: at})
}

package outer

import (
	"slices"

	"tenterhook/api"
	"tenterhook/dict"
	"tenterhook/mem"
	"tenterhook/op"
	"tenterhook/ret"
	"tenterhook/step"
)

// asked is what the host does for an operation of the group 7.
func asked(o int) func(*reader) api.Throw {
	switch o {
	case op.Create:
		return (*reader).create
	case op.Does:
		return (*reader).become
	case op.Here:
		return (*reader).here
	case op.Allot:
		return (*reader).allot
	case op.Comma:
		return (*reader).comma
	case op.Compile:
		return (*reader).compile
	}
	return (*reader).immediate
}

// answer does what is asked for; what comes of it.
func (r *reader) answer(o int) step.Res {
	// Done on another one: with a throw nothing is taken, neither cells nor a word of the text.
	done := *r
	e := asked(o)(&done)
	if e == api.OK {
		*r = done
		return r.told
	}
	var told step.Res
	r.S, told = step.Throw(r.P, r.S, e)
	return told
}

func (r *reader) create() api.Throw {
	_, e := r.addVar(0)
	return e
}

func (r *reader) become() api.Throw {
	last := len(r.P.Words) - 1
	if last < 0 || r.P.Words[last].Kind != dict.Var {
		return api.Control
	}
	t, end, e := ret.Leave(r.S.T)
	if e != api.OK {
		return e
	}
	w := r.P.Words[last]
	w.Kind, w.P = dict.Does, r.S.T.P
	r.changeLast(w)
	r.S.T = t
	if end {
		r.told = step.Res{Kind: step.Ended}
	}
	return api.OK
}

func (r *reader) here() api.Throw { return r.push(r.Here) }

func (r *reader) allot() api.Throw {
	n, e := r.pop()
	if e != api.OK {
		return e
	}
	if !mayBeHere(r.Here + n) {
		return api.Full
	}
	r.Here += n
	return api.OK
}

func (r *reader) comma() api.Throw {
	x, e := r.pop()
	if e != api.OK {
		return e
	}
	at, e := r.reserve(api.CellSize)
	if e != api.OK {
		return e
	}
	r.S.M, e = mem.Put(r.S.M, at, x)
	return e
}

func (r *reader) compile() api.Throw {
	if !r.Comp {
		return api.Compiles
	}
	xt, e := r.pop()
	if e != api.OK {
		return e
	}
	return r.layWord(xt)
}

func (r *reader) immediate() api.Throw {
	last := len(r.P.Words) - 1
	if last < 0 {
		return api.Undefined
	}
	w := r.P.Words[last]
	w.Imm = true
	r.changeLast(w)
	return api.OK
}

// changeLast is with another word for the last one, in new memory: other systems may have the same words.
func (r *reader) changeLast(w dict.Entry) {
	r.P.Words = slices.Concat(r.P.Words[:len(r.P.Words)-1], []dict.Entry{w})
}

package lib

import (
	"slices"
	"strings"
	"testing"

	"tenterhook/api"
	"tenterhook/dict"
	"tenterhook/outer"
	"tenterhook/step"
)

// lines are the source as the document tells it, line by line.
func lines() []string {
	return []string{
		": IDX 65535 AND ;",
		": CNT 16 RSHIFT 65535 AND ;",
		": TAG+ 32 RSHIFT 1+ 32 LSHIFT ;",
		": NODE 1- 16 * + 24 + ;",
		": GETNODE BEGIN DUP CELL+ @ DUP IDX 0= IF 2DROP 0 EXIT THEN 2DUP IDX NODE @ OVER TAG+ OR >R OVER CELL+ OVER R> CAS IF NIP IDX EXIT THEN DROP AGAIN ;",
		": PUTNODE BEGIN OVER CELL+ @ DUP IDX 3 PICK 3 PICK NODE ! DUP TAG+ 2 PICK OR >R 2 PICK CELL+ OVER R> CAS IF DROP 2DROP EXIT THEN DROP AGAIN ;",
		": PUSH 2DUP 1 NOTE DUP GETNODE DUP 0= IF -8 THROW THEN 2 PICK 2 PICK 2 PICK NODE CELL+ ! BEGIN OVER @ DUP CNT 3 PICK 16 + @ < 0= IF DROP OVER SWAP PUTNODE 0 OVER 2 NOTE 2DROP 0 EXIT THEN DUP IDX 3 PICK 3 PICK NODE ! DUP TAG+ OVER CNT 1+ 16 LSHIFT OR 2 PICK OR >R 2 PICK OVER R> CAS IF 2DROP -1 OVER 2 NOTE 2DROP -1 EXIT THEN DROP AGAIN ;",
		": POP 0 OVER 3 NOTE BEGIN DUP @ DUP IDX 0= IF DROP 0 SWAP 5 NOTE 0 0 EXIT THEN 2DUP IDX NODE DUP @ SWAP CELL+ @ >R OVER TAG+ OR OVER CNT 1- 16 LSHIFT OR 2 PICK 2 PICK ROT CAS IF OVER SWAP IDX PUTNODE R@ SWAP 4 NOTE R> -1 EXIT THEN R> 2DROP AGAIN ;",
		": SLOT OVER 16 + @ MOD 8 * + 24 + ;",
		": EMPTYW SWAP 16 + @ / 33 LSHIFT ;",
		": ENQ 2DUP 6 NOTE BEGIN DUP CELL+ @ 2DUP SLOT DUP @ 3 PICK 3 PICK EMPTYW 2DUP = IF DROP DUP 4294967296 OR 5 PICK 4294967295 AND OR 2 PICK ROT ROT CAS IF DROP OVER CELL+ SWAP DUP 1+ CAS DROP -1 OVER 7 NOTE 2DROP -1 EXIT THEN 2DROP ELSE 32 RSHIFT SWAP 32 RSHIFT SWAP - DUP 0 > IF 2DROP OVER CELL+ SWAP DUP 1+ CAS DROP ELSE -1 = IF 2DROP 0 OVER 7 NOTE 2DROP 0 EXIT ELSE 2DROP THEN THEN THEN AGAIN ;",
		": DEQ 0 OVER 8 NOTE BEGIN DUP @ 2DUP SLOT DUP @ 3 PICK 3 PICK EMPTYW OVER 32 RSHIFT SWAP 32 RSHIFT - DUP 1 = IF DROP 3 PICK 3 PICK EMPTYW 8589934592 + 2 PICK 2 PICK ROT CAS IF NIP 4294967295 AND >R OVER SWAP DUP 1+ CAS DROP R@ SWAP 9 NOTE R> -1 EXIT THEN 2DROP DROP ELSE 0= IF 2DROP DROP 0 SWAP 10 NOTE 0 0 EXIT ELSE 2DROP OVER SWAP DUP 1+ CAS DROP THEN THEN AGAIN ;",
		": ACQUIRE 0 OVER 11 NOTE BEGIN DUP @ 2DUP DUP 1+ CAS 0= WHILE DROP REPEAT BEGIN OVER CELL+ @ OVER <> WHILE PAUSE REPEAT SWAP 12 NOTE ;",
		": RELEASE 0 OVER 13 NOTE 1 OVER CELL+ +! 0 SWAP 14 NOTE ;",
		": SIGNAL 0 OVER 17 NOTE 1 OVER +! 0 SWAP 18 NOTE ;",
		": WAIT 0 OVER 15 NOTE BEGIN DUP @ DUP IF 2DUP DUP 1- CAS NIP ELSE DROP PAUSE 0 THEN UNTIL 0 SWAP 16 NOTE ;",
	}
}

// text is the whole source: a byte 10 behind each line but the last.
func text() string { return strings.Join(lines(), "\n") }

func shownNames() []string {
	return []string{"PUSH", "POP", "ENQ", "DEQ", "ACQUIRE", "RELEASE", "SIGNAL", "WAIT"}
}

func innerNames() []string {
	return []string{"IDX", "CNT", "TAG+", "NODE", "GETNODE", "PUTNODE", "SLOT", "EMPTYW"}
}

// byHand is the system behind the source, as it is evaluated by hand.
func byHand(t *testing.T) outer.Sys {
	t.Helper()
	s, e := outer.Eval(outer.New(), text())
	if e != api.OK {
		t.Fatalf("the source throws %d", int(e))
	}
	return s
}

func TestSource(t *testing.T) {
	got, want := Source(), text()
	for k := range min(len(got), len(want)) {
		if got[k] != want[k] {
			t.Fatalf("the byte %d is %q, not %q: %.40q", k, got[k], want[k], got[k:])
		}
	}
	if len(got) != len(want) {
		t.Errorf("%d bytes, not %d", len(got), len(want))
	}
	if n := strings.Count(got, "\n"); n != 15 || strings.HasSuffix(got, "\n") {
		t.Errorf("%d bytes 10, and the last byte is %q", n, got[len(got)-1])
	}
}

// TestSourceLines asks that each line defines one word, and which.
func TestSourceLines(t *testing.T) {
	want := strings.Fields("IDX CNT TAG+ NODE GETNODE PUTNODE PUSH POP SLOT EMPTYW ENQ DEQ ACQUIRE RELEASE SIGNAL WAIT")
	got := strings.Split(Source(), "\n")
	if len(got) != len(want) {
		t.Fatalf("%d lines", len(got))
	}
	for k, name := range want {
		if !strings.HasPrefix(got[k], ": "+name+" ") || !strings.HasSuffix(got[k], " ;") {
			t.Errorf("%s: %q", name, got[k])
		}
	}
}

func TestNames(t *testing.T) {
	for range 2 {
		got := Names()
		if !slices.Equal(got, shownNames()) {
			t.Fatalf("got %q", got)
		}
		// What is told is each time's own.
		clear(got)
	}
}

func TestBoot(t *testing.T) {
	s, e := Boot()
	if e != api.OK {
		t.Errorf("throws %d", int(e))
	}
	hand := byHand(t)
	if s.P.Lib != 16 || len(s.P.Threads) != 16 || hand.P.Lib != 0 {
		t.Errorf("Lib %d of %d threads, by hand %d", s.P.Lib, len(s.P.Threads), hand.P.Lib)
	}
	hand.P.Lib, hand.P.Words = s.P.Lib, s.P.Words
	if d := differ(s, hand); d != "" {
		t.Errorf("otherwise than by hand: %s", d)
	}
	if !outer.Sane(s) {
		t.Error("what is answered may not be")
	}
}

func TestBootWords(t *testing.T) {
	s, _ := Boot()
	// The place of each of the names among the lines is the number of its thread.
	want := dict.Base()
	for k, th := range []int{6, 7, 10, 11, 12, 13, 14, 15} {
		want = append(want, dict.Entry{Name: shownNames()[k], Kind: dict.Colon, P: api.Place{Th: th}})
	}
	if !slices.Equal(s.P.Words, want) {
		t.Errorf("got %v,\nwant %v", s.P.Words, want)
	}
	if n := len(byHand(t).P.Words); n != len(want)+8 {
		t.Errorf("by hand %d words, not eight more than %d", n, len(want))
	}
}

func TestBootFinds(t *testing.T) {
	s, _ := Boot()
	for _, name := range shownNames() {
		for _, name := range []string{name, strings.ToLower(name)} {
			u, e := outer.Eval(s, "' "+name+" DROP : T POSTPONE "+name+" "+name+" ;")
			if e != api.OK || len(u.S.T.D) != 0 {
				t.Errorf("%s: throws %d, %v", name, int(e), u.S.T.D)
			}
		}
	}
	for _, name := range innerNames() {
		for _, text := range []string{"1 1 " + name, "' " + name, ": T " + name + " ;", ": T ['] " + name + " ;", ": T POSTPONE " + name + " ;", "1 1 " + strings.ToLower(name)} {
			if _, e := outer.Eval(s, text); e != api.Undefined {
				t.Errorf("%s: throws %d", text, int(e))
			}
		}
		if _, e := outer.Eval(byHand(t), "' "+name); e != api.OK {
			t.Errorf("%s by hand: throws %d", name, int(e))
		}
	}
}

// TestBootOthersWords asks that words of the inner ones' names may be made, and change nothing of the library's.
func TestBootOthersWords(t *testing.T) {
	s := booted(t)
	for _, name := range innerNames() {
		s = does(t, s, ": "+name+" 99 THROW ;")
		throws(t, s, name, 99)
	}
	s.S.M = with(Stack(s.S.M, 2048, 2))
	s.S.M = with(Ring(s.S.M, 3000, 2))
	s = does(t, s, "5 2048 push 2048 pop", -1, 5, -1)
	does(t, s, "6 3000 enq 3000 deq", -1, 5, -1, -1, 6, -1)
}

// TestBootAsByHand asks of texts that they run with Boot's system as with the source evaluated by hand, whatever they throw.
func TestBootAsByHand(t *testing.T) {
	s, hand := objects(booted(t)), objects(byHand(t))
	for _, text := range []string{
		"", "1 2 + .", "5 2048 push 6 2048 push 2048 pop 2048 pop 2048 pop", "1 2048 push 2 2048 push 3 2048 push 4 2048 push",
		"5 3000 enq 6 3000 enq 3000 deq 3000 deq 3000 deq", "1 3000 enq 2 3000 enq 3 3000 enq 4 3000 enq",
		"3600 acquire 3600 release 3600 acquire", "3600 acquire 3600 acquire", "3616 signal 3616 wait 3616 wait", "3616 wait 3616 wait",
		": two dup 2048 push swap 2048 push and ; 7 8 two 2048 pop . . 2048 pop . .", ": sum 0 begin 3000 deq while + repeat drop ; 3 3000 enq 4 3000 enq sum .",
		"push", "1 push", "pop", "5 2050 push", "5 4096 enq", "-8 pop", ": p 1 2048 push ; : t ['] p catch . ; t t t t", ": p 2052 pop ; : t ['] p catch . ; t", "7 throw", "nothing",
	} {
		got, e := outer.Eval(s, text)
		want, wantE := outer.Eval(hand, text)
		// The programs differ: by the eight words that Boot takes away, and so by the numbers of those behind them.
		got.P, want.P = step.Prog{}, step.Prog{}
		if d := differ(got, want); d != "" || e != wantE {
			t.Errorf("%q: differs from by hand in [%s]; %d, not %d", text, d, int(e), int(wantE))
		}
	}
}

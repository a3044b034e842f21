package outer

import "strings"

// texts are whole texts, of many kinds.
func texts() []string {
	return []string{
		": sq dup * ; 5 sq .", ": t if 1 else 2 then ; 0 t -1 t", ": c 0 ?do i . loop ; 3 c 0 c", ": w begin dup while dup . 1- repeat drop ; 3 w", "variable v 7 v ! 2 v +! v @", "5 constant k k k", "create a 1 , 2 , a cell+ @ here a -",
		": con create , does> @ ; 9 con n n n", ": arr create cells allot does> swap cells + ; 3 arr z 8 1 z ! 1 z @", "s\" hey\" type .\" you\"", ": m .\" in\" s\" side\" type ; m m", ": q [char] z ['] dup ; q drop", "3 ' dup execute", ": im 42 ; immediate : u im ;", ": p postpone dup ; immediate : r p + ; 3 r",
		": l [ 2 3 + ] literal ; l", ": f dup 1 > if dup 1- recurse * then ; 5 f", "1 ( 2 3 ) 4 \\ 5 6\n7", "hex ff decimal", ": z -9 throw ; 4 ' z catch", ": n2 create ; ' n2 catch", "pause 1 3 sleep 2", "1 bye 2", "1 2 0 /", "1 nothing", ": a b", "then", ": a then", ": a if ;", ": a : b", ":", "'", "2048 allot 1 ,", "1 allot 5 ,", "0 base ! 5",
		": d 5 ; : d d 1+ ; d", ": a 1 ; : b a 2 ; : a 3 ; b a", ": sum 0 swap 0 do i + loop ; 5 sum .", ": x 10 0 do i 5 = if leave then i . loop ; x", ": y 10 0 do i . 3 +loop ; y", ": g begin dup . 1- dup 0= until drop ; 3 g", ": h begin 1+ dup 5 > if exit then again ; 0 h .",
	}
}

// words are what mixes are made of: words of each kind, and parts of texts that belong together.
func words() []string {
	out := strings.Fields("( ) \\ .\" S\" x\" CHAR [CHAR] ' ['] : ; CONSTANT VARIABLE DOES> RECURSE POSTPONE LITERAL [ ] IF ELSE THEN BEGIN AGAIN UNTIL WHILE REPEAT DO ?DO LOOP +LOOP LEAVE " +
		"CREATE HERE ALLOT , COMPILE, IMMEDIATE EXIT I J >R R> R@ EXECUTE CATCH THROW DUP DROP SWAP OVER ROT PICK DEPTH + - * / MOD 1+ 1- 2* = < 0= ! @ C! C@ +! FILL MOVE CAS EMIT TYPE . U. CR SPACE <# # #S HOLD SIGN #> BASE DECIMAL HEX ME TICKS PAUSE SLEEP BYE NOTE " +
		"0 1 2 3 8 -1 10 64 2048 4992 -8 #12 $ff %101 -7. '*' 99999999999999999999 2b nothing a b c a b c : : ; ; ; 1 2 3 4 5")
	return append(out, ": a", "; a", ": b a", "; immediate", "variable v", "v @", "create c", "c", ": con create , does> @ ;", "5 con n", "n", "' a", "' a catch", "' b execute", "s\" text\"", ".\" told\"", "0 3 fill", "if 1 then", "5 0 do i . loop", "[ 3 ] literal", "postpone a", "postpone dup", "['] a catch", "\\ gone\n", "( gone )", "drop drop", "1 2 3", "\n")
}

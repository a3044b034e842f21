/-
  QueueIs answers true, whatever the queue and the numbers are: package queue's calls answer what the document's own do.
-/
import Derived.Test.YtoklocbdifefcaaQueueRPut
import Derived.Test.YtoklocbdifefcaaQueueLine
namespace Go.Proofs.Ytoklocbdifefcaa
open Go.RowKit

/-- A block that holds a queue whose items read as a list. -/
structure QI (w : World) (g : Nat) (T : TypeId) (N : Int) (l : List It) (A : Option Addr) (n c : Nat) : Prop where
  q : Qv w g T N A n c
  its : Its w A n c l
theorem QI.keep {w w' : World} {g : Nat} {T : TypeId} {N : Int} {l : List It} {A : Option Addr} {n c : Nat} (h : QI w g T N l A n c) (hb : Below w.heap.size w w') : QI w' g T N l A n c := ⟨h.q.keep hb, h.its.below hb⟩
theorem QI.cs {w : World} {g : Nat} {T : TypeId} {N : Int} {l : List It} {A : Option Addr} {n c : Nat} (h : QI w g T N l A n c) : w.cell? ⟨g, 0, none⟩ = some (.int .i64 N) ∧ w.cell? ⟨g, 1, none⟩ = some (.slice A n c) := ⟨h.q.c0, h.q.c1⟩

theorem lput_is (N : Int) (A : Option Addr) (n c : Nat) (l : List It) (d p PN : Int) (PL : List It) (PB : Bool) (w : World) (hn : n ≤ 4611686018427387904) (h : Its w A n c l) (h1 : puN (tkN N l) (tkL N l) d p = PN) (h2 : puL (tkN N l) (tkL N l) d p = PL) (h3 : puB (tkN N l) (tkL N l) d p = PB) :
    Calls Try.prog 9 #[.agg #[.int .i64 N, .slice A n c], .int .i64 d, .int .i64 p] w (Q2Post A n PN PL PB w) := by
  subst h1 h2 h3
  exact put_is N A n c l d p w hn h

theorem rlput_is (N : Int) (A : Option Addr) (n c : Nat) (l : List It) (d p PN : Int) (PL : List It) (PB : Bool) (w : World) (h : Its w A n c l) (h1 : puN (tkN N l) (tkL N l) d p = PN) (h2 : puL (tkN N l) (tkL N l) d p = PL) (h3 : puB (tkN N l) (tkL N l) d p = PB) :
    Calls Try.prog 11 #[.agg #[.int .i64 N, .slice A n c], .int .i64 d, .int .i64 p] w (Q2Post A n PN PL PB w) := by
  subst h1 h2 h3
  exact rput_is N A n c l d p w h

theorem lnth_is (N : Int) (A : Option Addr) (n c : Nat) (l : List It) (z TN : Int) (NL : List It) (ND : Int) (NB : Bool) (w : World) (hn : n ≤ 4611686018427387904) (h : Its w A n c l) (h0 : tkN N l = TN) (h1 : nthL (tkL N l) z = NL) (h2 : nthD (tkL N l) z = ND) (h3 : nthB (tkL N l) = NB) :
    Calls Try.prog 12 #[.agg #[.int .i64 N, .slice A n c], .int .i64 z] w (Q3Post A n TN NL ND NB w) := by
  subst h0 h1 h2 h3
  exact nth_is N A n c l z w hn h

theorem rlnth_is (N : Int) (A : Option Addr) (n c : Nat) (l : List It) (z TN : Int) (NL : List It) (ND : Int) (NB : Bool) (w : World) (h : Its w A n c l) (h0 : tkN N l = TN) (h1 : nthL (tkL N l) z = NL) (h2 : nthD (tkL N l) z = ND) (h3 : nthB (tkL N l) = NB) :
    Calls Try.prog 13 #[.agg #[.int .i64 N, .slice A n c], .int .i64 z] w (Q3Post A n TN NL ND NB w) := by
  subst h0 h1 h2 h3
  exact rnth_is N A n c l z w h

theorem ltake_is (N : Int) (A : Option Addr) (n c : Nat) (l : List It) (TN : Int) (NL : List It) (ND : Int) (NB : Bool) (w : World) (hn : n ≤ 4611686018427387904) (h : Its w A n c l) (h0 : tkN N l = TN) (h1 : nthL (tkL N l) 0 = NL) (h2 : nthD (tkL N l) 0 = ND) (h3 : nthB (tkL N l) = NB) :
    Calls Try.prog 14 #[.agg #[.int .i64 N, .slice A n c]] w (Q3Post A n TN NL ND NB w) := by
  subst h0 h1 h2 h3
  exact take_is N A n c l w hn h

theorem rltake_is (N : Int) (A : Option Addr) (n c : Nat) (l : List It) (TN : Int) (NL : List It) (ND : Int) (NB : Bool) (w : World) (h : Its w A n c l) (h0 : tkN N l = TN) (h1 : nthL (tkL N l) 0 = NL) (h2 : nthD (tkL N l) 0 = ND) (h3 : nthB (tkL N l) = NB) :
    Calls Try.prog 15 #[.agg #[.int .i64 N, .slice A n c]] w (Q3Post A n TN NL ND NB w) := by
  subst h0 h1 h2 h3
  exact rtake_is N A n c l w h

theorem ldrop_is (N : Int) (A : Option Addr) (n c : Nat) (l : List It) (d TN : Int) (DL : List It) (DB : Bool) (w : World) (hn : n ≤ 4611686018427387904) (h : Its w A n c l) (h0 : tkN N l = TN) (h1 : drL (tkL N l) d = DL) (h2 : drB (tkL N l) d = DB) :
    Calls Try.prog 16 #[.agg #[.int .i64 N, .slice A n c], .int .i64 d] w (Q2Post A n TN DL DB w) := by
  subst h0 h1 h2
  exact drop_is N A n c l d w hn h

theorem rldrop_is (N : Int) (A : Option Addr) (n c : Nat) (l : List It) (d TN : Int) (DL : List It) (DB : Bool) (w : World) (h : Its w A n c l) (h0 : tkN N l = TN) (h1 : drL (tkL N l) d = DL) (h2 : drB (tkL N l) d = DB) :
    Calls Try.prog 17 #[.agg #[.int .i64 N, .slice A n c], .int .i64 d] w (Q2Post A n TN DL DB w) := by
  subst h0 h1 h2
  exact rdrop_is N A n c l d w h

theorem lids_is (N : Int) (A : Option Addr) (n c : Nat) (l : List It) (IL : List Int) (w : World) (hn : n ≤ 4611686018427387904) (h : Its w A n c l) (h1 : idL (tkL N l) = IL) :
    Calls Try.prog 21 #[.agg #[.int .i64 N, .slice A n c]] w (IdPost IL w) := by
  subst h1
  exact ids_is N A n c l w hn h

theorem rlids_is (N : Int) (A : Option Addr) (n c : Nat) (l : List It) (IL : List Int) (w : World) (h : Its w A n c l) (h1 : idL (tkL N l) = IL) :
    Calls Try.prog 22 #[.agg #[.int .i64 N, .slice A n c]] w (IdPost IL w) := by
  subst h1
  exact rids_is N A n c l w h

set_option maxHeartbeats 8000000 in
set_option maxRecDepth 8000 in
theorem is_any (N : Int) (A : Option Addr) (n c : Nat) (l : List It) (d p : Int) (w : World) (h : Its w A n c l) :
    Calls Try.prog 3 #[.agg #[.int .i64 N, .slice A n c], .int .i64 d, .int .i64 p] w fun e w' => e = .returned (.bool true) ∧ Below w.heap.size w w' := by
  have QQ := Lib.hid (QI.mk (Qv.new w 24 N A n c) (h.alloc (.cells #[.int .i64 N, .slice A n c] 24)))
  have HB := Lib.hid (below_one w (.cells #[.int .i64 N, .slice A n c] 24))
  clear h
  obtain ⟨PN, hH1⟩ : ∃ x, puN (tkN N l) (tkL N l) d p = x := ⟨_, rfl⟩
  have H1 := Lib.hid hH1
  clear hH1
  obtain ⟨PL, hH2⟩ : ∃ x, puL (tkN N l) (tkL N l) d p = x := ⟨_, rfl⟩
  have H2 := Lib.hid hH2
  clear hH2
  obtain ⟨PB, hH3⟩ : ∃ x, puB (tkN N l) (tkL N l) d p = x := ⟨_, rfl⟩
  have H3 := Lib.hid hH3
  clear hH3
  obtain ⟨TN, hH4⟩ : ∃ x, tkN N l = x := ⟨_, rfl⟩
  have H4 := Lib.hid hH4
  clear hH4
  obtain ⟨NL, hH5⟩ : ∃ x, nthL (tkL N l) p = x := ⟨_, rfl⟩
  have H5 := Lib.hid hH5
  clear hH5
  obtain ⟨ND, hH6⟩ : ∃ x, nthD (tkL N l) p = x := ⟨_, rfl⟩
  have H6 := Lib.hid hH6
  clear hH6
  obtain ⟨NB, hH7⟩ : ∃ x, nthB (tkL N l) = x := ⟨_, rfl⟩
  have H7 := Lib.hid hH7
  clear hH7
  obtain ⟨TL, hH8⟩ : ∃ x, nthL (tkL N l) 0 = x := ⟨_, rfl⟩
  have H8 := Lib.hid hH8
  clear hH8
  obtain ⟨TD, hH9⟩ : ∃ x, nthD (tkL N l) 0 = x := ⟨_, rfl⟩
  have H9 := Lib.hid hH9
  clear hH9
  obtain ⟨TB, hH10⟩ : ∃ x, nthB (tkL N l) = x := ⟨_, rfl⟩
  have H10 := Lib.hid hH10
  clear hH10
  obtain ⟨DL, hH11⟩ : ∃ x, drL (tkL N l) d = x := ⟨_, rfl⟩
  have H11 := Lib.hid hH11
  clear hH11
  obtain ⟨DB, hH12⟩ : ∃ x, drB (tkL N l) d = x := ⟨_, rfl⟩
  have H12 := Lib.hid hH12
  clear hH12
  obtain ⟨IL, hH13⟩ : ∃ x, idL (tkL N l) = x := ⟨_, rfl⟩
  have H13 := Lib.hid hH13
  clear hH13
  obtain ⟨SB, hH14⟩ : ∃ x, decide (Sq N l) = x := ⟨_, rfl⟩
  have H14 := Lib.hid hH14
  clear hH14
  have HIL : Hid (IL.length ≤ 8) := Lib.hid (by rw [← H13.out]; unfold idL; rw [List.length_map]; exact (sq_tk N l).2.1)
  have hlen : ∀ {W : World} {g : Nat} {T : TypeId} {M : Int} {L : List It} {A' : Option Addr} {n' c' : Nat}, QI W g T M L A' n' c' → L.length = n' := fun h => h.its.len
  have HTL : (tkL N l).length ≤ 8 := (sq_tk N l).2.1
  have hPLl : PL.length ≤ 8 := by rw [← H2.out]; exact (sq_put _ _ (sq_tk N l)).2.1
  have hNLl : NL.length ≤ 8 := by rw [← H5.out]; exact (sq_nth _ (sq_tk N l)).2.1
  have hTLl : TL.length ≤ 8 := by rw [← H8.out]; exact (sq_nth _ (sq_tk N l)).2.1
  have hDLl : DL.length ≤ 8 := by rw [← H11.out]; exact (sq_dr _ (sq_tk N l)).2.1
  go_enter Try.func3, Try.ntmps3
  go_upto_region 1 with (fail)
  generalize w.alloc (.cells #[.int .i64 N, .slice A n c] 24) = W at *
  have qa := QQ.out.q.c0; have qb := QQ.out.q.c1
  go_upto_region 2 with (go_at_call 8; (with_reducible refine (awake_any _).mono ?_); rintro e w1 ⟨rfl, hb⟩; have HB := Lib.hid (below_then HB.out hb); have QQ := Lib.hid (QQ.out.keep hb); clear qa qb hb; have qa := QQ.out.q.c0; have qb := QQ.out.q.c1)
  by_cases hn : n ≤ 30
  rotate_left
  · go_wp2
    go_ret
    exact ⟨rfl, HB.out⟩
  go_upto_region 5 with (first
    | (go_at_call 10; (with_reducible refine (line_is N A n c l _ (by omega) QQ.out.its).mono ?_); rintro e w11 ⟨A11, c11, rfl, hi, hb, -⟩; have HL := Lib.hid hi; clear hi; have HB := Lib.hid (below_then HB.out hb); have QQ := Lib.hid (QQ.out.keep hb); clear qa qb hb; have qa := QQ.out.q.c0; have qb := QQ.out.q.c1)
    | (go_at_call 9; (with_reducible refine (lput_is N A11 n c11 l d p PN PL PB _ (by omega) HL.out H1.out H2.out H3.out).mono ?_); rintro e w12 ⟨A12, n12, c12, rfl, hi, hb, -⟩; have HI := Lib.hid hi; clear hi; have HB := Lib.hid (below_then HB.out hb); have QQ := Lib.hid (QQ.out.keep hb); clear qa qb hb; have qa := QQ.out.q.c0; have qb := QQ.out.q.c1))
  have Qa := Lib.hid (QI.mk (Qv.new w12 28 PN A12 n12 c12) (HI.out.alloc (.cells #[.int .i64 PN, .slice A12 n12 c12] 28)))
  have HB := Lib.hid (HB.out.alloc HB.out.size (.cells #[.int .i64 PN, .slice A12 n12 c12] 28))
  have QQ := Lib.hid (QQ.out.keep (below_one w12 (.cells #[.int .i64 PN, .slice A12 n12 c12] 28)))
  obtain ⟨gQa, hg⟩ : ∃ g, w12.heap.size = g := ⟨_, rfl⟩
  generalize w12.alloc (.cells #[.int .i64 PN, .slice A12 n12 c12] 28) = W12 at *
  rw [hg] at Qa ⊢
  clear HI qa qb hg
  have qa := QQ.out.q.c0; have qb := QQ.out.q.c1
  go_upto_region 6 with (first
    | (go_at_call 11; (with_reducible refine (rlput_is N A n c l d p PN PL PB _ QQ.out.its H1.out H2.out H3.out).mono ?_); rintro e w13 ⟨A13, n13, c13, rfl, hi, hb, -⟩; have HI := Lib.hid hi; clear hi; have HB := Lib.hid (below_then HB.out hb); have QQ := Lib.hid (QQ.out.keep hb); have Qa := Lib.hid (Qa.out.keep hb); clear qa qb hb; have qa := QQ.out.q.c0; have qb := QQ.out.q.c1))
  have Qb := Lib.hid (QI.mk (Qv.new w13 24 PN A13 n13 c13) (HI.out.alloc (.cells #[.int .i64 PN, .slice A13 n13 c13] 24)))
  have HB := Lib.hid (HB.out.alloc HB.out.size (.cells #[.int .i64 PN, .slice A13 n13 c13] 24))
  have QQ := Lib.hid (QQ.out.keep (below_one w13 (.cells #[.int .i64 PN, .slice A13 n13 c13] 24)))
  have Qa := Lib.hid (Qa.out.keep (below_one w13 (.cells #[.int .i64 PN, .slice A13 n13 c13] 24)))
  obtain ⟨gQb, hg⟩ : ∃ g, w13.heap.size = g := ⟨_, rfl⟩
  generalize w13.alloc (.cells #[.int .i64 PN, .slice A13 n13 c13] 24) = W13 at *
  rw [hg] at Qb ⊢
  clear HI qa qb hg
  have qa := QQ.out.q.c0; have qb := QQ.out.q.c1
  go_upto_region 7 with (first
    | (go_at_call 10; (with_reducible refine (line_is N A n c l _ (by omega) QQ.out.its).mono ?_); rintro e w14 ⟨A14, c14, rfl, hi, hb, -⟩; have HL := Lib.hid hi; clear hi; have HB := Lib.hid (below_then HB.out hb); have QQ := Lib.hid (QQ.out.keep hb); have Qa := Lib.hid (Qa.out.keep hb); have Qb := Lib.hid (Qb.out.keep hb); clear qa qb hb; have qa := QQ.out.q.c0; have qb := QQ.out.q.c1)
    | (go_at_call 12; (with_reducible refine (lnth_is N A14 n c14 l p TN NL ND NB _ (by omega) HL.out H4.out H5.out H6.out H7.out).mono ?_); rintro e w15 ⟨A15, n15, c15, rfl, hi, hb, -⟩; have HI := Lib.hid hi; clear hi; have HB := Lib.hid (below_then HB.out hb); have QQ := Lib.hid (QQ.out.keep hb); have Qa := Lib.hid (Qa.out.keep hb); have Qb := Lib.hid (Qb.out.keep hb); clear qa qb hb; have qa := QQ.out.q.c0; have qb := QQ.out.q.c1))
  have Qc := Lib.hid (QI.mk (Qv.new w15 28 TN A15 n15 c15) (HI.out.alloc (.cells #[.int .i64 TN, .slice A15 n15 c15] 28)))
  have HB := Lib.hid (HB.out.alloc HB.out.size (.cells #[.int .i64 TN, .slice A15 n15 c15] 28))
  have QQ := Lib.hid (QQ.out.keep (below_one w15 (.cells #[.int .i64 TN, .slice A15 n15 c15] 28)))
  have Qa := Lib.hid (Qa.out.keep (below_one w15 (.cells #[.int .i64 TN, .slice A15 n15 c15] 28)))
  have Qb := Lib.hid (Qb.out.keep (below_one w15 (.cells #[.int .i64 TN, .slice A15 n15 c15] 28)))
  obtain ⟨gQc, hg⟩ : ∃ g, w15.heap.size = g := ⟨_, rfl⟩
  generalize w15.alloc (.cells #[.int .i64 TN, .slice A15 n15 c15] 28) = W15 at *
  rw [hg] at Qc ⊢
  clear HI qa qb hg
  have qa := QQ.out.q.c0; have qb := QQ.out.q.c1
  go_upto_region 8 with (first
    | (go_at_call 13; (with_reducible refine (rlnth_is N A n c l p TN NL ND NB _ QQ.out.its H4.out H5.out H6.out H7.out).mono ?_); rintro e w16 ⟨A16, n16, c16, rfl, hi, hb, -⟩; have HI := Lib.hid hi; clear hi; have HB := Lib.hid (below_then HB.out hb); have QQ := Lib.hid (QQ.out.keep hb); have Qa := Lib.hid (Qa.out.keep hb); have Qb := Lib.hid (Qb.out.keep hb); have Qc := Lib.hid (Qc.out.keep hb); clear qa qb hb; have qa := QQ.out.q.c0; have qb := QQ.out.q.c1))
  have Qd := Lib.hid (QI.mk (Qv.new w16 24 TN A16 n16 c16) (HI.out.alloc (.cells #[.int .i64 TN, .slice A16 n16 c16] 24)))
  have HB := Lib.hid (HB.out.alloc HB.out.size (.cells #[.int .i64 TN, .slice A16 n16 c16] 24))
  have QQ := Lib.hid (QQ.out.keep (below_one w16 (.cells #[.int .i64 TN, .slice A16 n16 c16] 24)))
  have Qa := Lib.hid (Qa.out.keep (below_one w16 (.cells #[.int .i64 TN, .slice A16 n16 c16] 24)))
  have Qb := Lib.hid (Qb.out.keep (below_one w16 (.cells #[.int .i64 TN, .slice A16 n16 c16] 24)))
  have Qc := Lib.hid (Qc.out.keep (below_one w16 (.cells #[.int .i64 TN, .slice A16 n16 c16] 24)))
  obtain ⟨gQd, hg⟩ : ∃ g, w16.heap.size = g := ⟨_, rfl⟩
  generalize w16.alloc (.cells #[.int .i64 TN, .slice A16 n16 c16] 24) = W16 at *
  rw [hg] at Qd ⊢
  clear HI qa qb hg
  have qa := QQ.out.q.c0; have qb := QQ.out.q.c1
  go_upto_region 9 with (first
    | (go_at_call 10; (with_reducible refine (line_is N A n c l _ (by omega) QQ.out.its).mono ?_); rintro e w17 ⟨A17, c17, rfl, hi, hb, -⟩; have HL := Lib.hid hi; clear hi; have HB := Lib.hid (below_then HB.out hb); have QQ := Lib.hid (QQ.out.keep hb); have Qa := Lib.hid (Qa.out.keep hb); have Qb := Lib.hid (Qb.out.keep hb); have Qc := Lib.hid (Qc.out.keep hb); have Qd := Lib.hid (Qd.out.keep hb); clear qa qb hb; have qa := QQ.out.q.c0; have qb := QQ.out.q.c1)
    | (go_at_call 14; (with_reducible refine (ltake_is N A17 n c17 l TN TL TD TB _ (by omega) HL.out H4.out H8.out H9.out H10.out).mono ?_); rintro e w18 ⟨A18, n18, c18, rfl, hi, hb, -⟩; have HI := Lib.hid hi; clear hi; have HB := Lib.hid (below_then HB.out hb); have QQ := Lib.hid (QQ.out.keep hb); have Qa := Lib.hid (Qa.out.keep hb); have Qb := Lib.hid (Qb.out.keep hb); have Qc := Lib.hid (Qc.out.keep hb); have Qd := Lib.hid (Qd.out.keep hb); clear qa qb hb; have qa := QQ.out.q.c0; have qb := QQ.out.q.c1))
  have Qe := Lib.hid (QI.mk (Qv.new w18 28 TN A18 n18 c18) (HI.out.alloc (.cells #[.int .i64 TN, .slice A18 n18 c18] 28)))
  have HB := Lib.hid (HB.out.alloc HB.out.size (.cells #[.int .i64 TN, .slice A18 n18 c18] 28))
  have QQ := Lib.hid (QQ.out.keep (below_one w18 (.cells #[.int .i64 TN, .slice A18 n18 c18] 28)))
  have Qa := Lib.hid (Qa.out.keep (below_one w18 (.cells #[.int .i64 TN, .slice A18 n18 c18] 28)))
  have Qb := Lib.hid (Qb.out.keep (below_one w18 (.cells #[.int .i64 TN, .slice A18 n18 c18] 28)))
  have Qc := Lib.hid (Qc.out.keep (below_one w18 (.cells #[.int .i64 TN, .slice A18 n18 c18] 28)))
  have Qd := Lib.hid (Qd.out.keep (below_one w18 (.cells #[.int .i64 TN, .slice A18 n18 c18] 28)))
  obtain ⟨gQe, hg⟩ : ∃ g, w18.heap.size = g := ⟨_, rfl⟩
  generalize w18.alloc (.cells #[.int .i64 TN, .slice A18 n18 c18] 28) = W18 at *
  rw [hg] at Qe ⊢
  clear HI qa qb hg
  have qa := QQ.out.q.c0; have qb := QQ.out.q.c1
  go_upto_region 10 with (first
    | (go_at_call 15; (with_reducible refine (rltake_is N A n c l TN TL TD TB _ QQ.out.its H4.out H8.out H9.out H10.out).mono ?_); rintro e w19 ⟨A19, n19, c19, rfl, hi, hb, -⟩; have HI := Lib.hid hi; clear hi; have HB := Lib.hid (below_then HB.out hb); have QQ := Lib.hid (QQ.out.keep hb); have Qa := Lib.hid (Qa.out.keep hb); have Qb := Lib.hid (Qb.out.keep hb); have Qc := Lib.hid (Qc.out.keep hb); have Qd := Lib.hid (Qd.out.keep hb); have Qe := Lib.hid (Qe.out.keep hb); clear qa qb hb; have qa := QQ.out.q.c0; have qb := QQ.out.q.c1))
  have Qf := Lib.hid (QI.mk (Qv.new w19 24 TN A19 n19 c19) (HI.out.alloc (.cells #[.int .i64 TN, .slice A19 n19 c19] 24)))
  have HB := Lib.hid (HB.out.alloc HB.out.size (.cells #[.int .i64 TN, .slice A19 n19 c19] 24))
  have QQ := Lib.hid (QQ.out.keep (below_one w19 (.cells #[.int .i64 TN, .slice A19 n19 c19] 24)))
  have Qa := Lib.hid (Qa.out.keep (below_one w19 (.cells #[.int .i64 TN, .slice A19 n19 c19] 24)))
  have Qb := Lib.hid (Qb.out.keep (below_one w19 (.cells #[.int .i64 TN, .slice A19 n19 c19] 24)))
  have Qc := Lib.hid (Qc.out.keep (below_one w19 (.cells #[.int .i64 TN, .slice A19 n19 c19] 24)))
  have Qd := Lib.hid (Qd.out.keep (below_one w19 (.cells #[.int .i64 TN, .slice A19 n19 c19] 24)))
  have Qe := Lib.hid (Qe.out.keep (below_one w19 (.cells #[.int .i64 TN, .slice A19 n19 c19] 24)))
  obtain ⟨gQf, hg⟩ : ∃ g, w19.heap.size = g := ⟨_, rfl⟩
  generalize w19.alloc (.cells #[.int .i64 TN, .slice A19 n19 c19] 24) = W19 at *
  rw [hg] at Qf ⊢
  clear HI qa qb hg
  have qa := QQ.out.q.c0; have qb := QQ.out.q.c1
  go_upto_region 11 with (first
    | (go_at_call 10; (with_reducible refine (line_is N A n c l _ (by omega) QQ.out.its).mono ?_); rintro e w20 ⟨A20, c20, rfl, hi, hb, -⟩; have HL := Lib.hid hi; clear hi; have HB := Lib.hid (below_then HB.out hb); have QQ := Lib.hid (QQ.out.keep hb); have Qa := Lib.hid (Qa.out.keep hb); have Qb := Lib.hid (Qb.out.keep hb); have Qc := Lib.hid (Qc.out.keep hb); have Qd := Lib.hid (Qd.out.keep hb); have Qe := Lib.hid (Qe.out.keep hb); have Qf := Lib.hid (Qf.out.keep hb); clear qa qb hb; have qa := QQ.out.q.c0; have qb := QQ.out.q.c1)
    | (go_at_call 16; (with_reducible refine (ldrop_is N A20 n c20 l d TN DL DB _ (by omega) HL.out H4.out H11.out H12.out).mono ?_); rintro e w21 ⟨A21, n21, c21, rfl, hi, hb, -⟩; have HI := Lib.hid hi; clear hi; have HB := Lib.hid (below_then HB.out hb); have QQ := Lib.hid (QQ.out.keep hb); have Qa := Lib.hid (Qa.out.keep hb); have Qb := Lib.hid (Qb.out.keep hb); have Qc := Lib.hid (Qc.out.keep hb); have Qd := Lib.hid (Qd.out.keep hb); have Qe := Lib.hid (Qe.out.keep hb); have Qf := Lib.hid (Qf.out.keep hb); clear qa qb hb; have qa := QQ.out.q.c0; have qb := QQ.out.q.c1))
  have Qi := Lib.hid (QI.mk (Qv.new w21 28 TN A21 n21 c21) (HI.out.alloc (.cells #[.int .i64 TN, .slice A21 n21 c21] 28)))
  have HB := Lib.hid (HB.out.alloc HB.out.size (.cells #[.int .i64 TN, .slice A21 n21 c21] 28))
  have QQ := Lib.hid (QQ.out.keep (below_one w21 (.cells #[.int .i64 TN, .slice A21 n21 c21] 28)))
  have Qa := Lib.hid (Qa.out.keep (below_one w21 (.cells #[.int .i64 TN, .slice A21 n21 c21] 28)))
  have Qb := Lib.hid (Qb.out.keep (below_one w21 (.cells #[.int .i64 TN, .slice A21 n21 c21] 28)))
  have Qc := Lib.hid (Qc.out.keep (below_one w21 (.cells #[.int .i64 TN, .slice A21 n21 c21] 28)))
  have Qd := Lib.hid (Qd.out.keep (below_one w21 (.cells #[.int .i64 TN, .slice A21 n21 c21] 28)))
  have Qe := Lib.hid (Qe.out.keep (below_one w21 (.cells #[.int .i64 TN, .slice A21 n21 c21] 28)))
  have Qf := Lib.hid (Qf.out.keep (below_one w21 (.cells #[.int .i64 TN, .slice A21 n21 c21] 28)))
  obtain ⟨gQi, hg⟩ : ∃ g, w21.heap.size = g := ⟨_, rfl⟩
  generalize w21.alloc (.cells #[.int .i64 TN, .slice A21 n21 c21] 28) = W21 at *
  rw [hg] at Qi ⊢
  clear HI qa qb hg
  have qa := QQ.out.q.c0; have qb := QQ.out.q.c1
  go_upto_region 12 with (first
    | (go_at_call 17; (with_reducible refine (rldrop_is N A n c l d TN DL DB _ QQ.out.its H4.out H11.out H12.out).mono ?_); rintro e w22 ⟨A22, n22, c22, rfl, hi, hb, -⟩; have HI := Lib.hid hi; clear hi; have HB := Lib.hid (below_then HB.out hb); have QQ := Lib.hid (QQ.out.keep hb); have Qa := Lib.hid (Qa.out.keep hb); have Qb := Lib.hid (Qb.out.keep hb); have Qc := Lib.hid (Qc.out.keep hb); have Qd := Lib.hid (Qd.out.keep hb); have Qe := Lib.hid (Qe.out.keep hb); have Qf := Lib.hid (Qf.out.keep hb); have Qi := Lib.hid (Qi.out.keep hb); clear qa qb hb; have qa := QQ.out.q.c0; have qb := QQ.out.q.c1))
  have Qj := Lib.hid (QI.mk (Qv.new w22 24 TN A22 n22 c22) (HI.out.alloc (.cells #[.int .i64 TN, .slice A22 n22 c22] 24)))
  have HB := Lib.hid (HB.out.alloc HB.out.size (.cells #[.int .i64 TN, .slice A22 n22 c22] 24))
  have QQ := Lib.hid (QQ.out.keep (below_one w22 (.cells #[.int .i64 TN, .slice A22 n22 c22] 24)))
  have Qa := Lib.hid (Qa.out.keep (below_one w22 (.cells #[.int .i64 TN, .slice A22 n22 c22] 24)))
  have Qb := Lib.hid (Qb.out.keep (below_one w22 (.cells #[.int .i64 TN, .slice A22 n22 c22] 24)))
  have Qc := Lib.hid (Qc.out.keep (below_one w22 (.cells #[.int .i64 TN, .slice A22 n22 c22] 24)))
  have Qd := Lib.hid (Qd.out.keep (below_one w22 (.cells #[.int .i64 TN, .slice A22 n22 c22] 24)))
  have Qe := Lib.hid (Qe.out.keep (below_one w22 (.cells #[.int .i64 TN, .slice A22 n22 c22] 24)))
  have Qf := Lib.hid (Qf.out.keep (below_one w22 (.cells #[.int .i64 TN, .slice A22 n22 c22] 24)))
  have Qi := Lib.hid (Qi.out.keep (below_one w22 (.cells #[.int .i64 TN, .slice A22 n22 c22] 24)))
  obtain ⟨gQj, hg⟩ : ∃ g, w22.heap.size = g := ⟨_, rfl⟩
  generalize w22.alloc (.cells #[.int .i64 TN, .slice A22 n22 c22] 24) = W22 at *
  rw [hg] at Qj ⊢
  clear HI qa qb hg
  have qa := QQ.out.q.c0; have qb := QQ.out.q.c1
  have hlQa := hlen Qa.out
  have hlQb := hlen Qb.out
  have hlQc := hlen Qc.out
  have hlQd := hlen Qd.out
  have hlQe := hlen Qe.out
  have hlQf := hlen Qf.out
  have hlQi := hlen Qi.out
  have hlQj := hlen Qj.out
  have nPB : (PB != PB) = false := by simp
  have nND : (ND != ND) = false := by simp
  have nNB : (NB != NB) = false := by simp
  have nTD : (TD != TD) = false := by simp
  have nTB : (TB != TB) = false := by simp
  have eDB : (DB == DB) = true := by simp
  have eSB : (SB == SB) = true := by simp
  clear HTL hlen
  have hHeld0 : (fun w9 => Below W22.heap.size W22 w9 ∧ (w9.cell? ⟨gQa, 0, none⟩ = some (.int .i64 PN) ∧ w9.cell? ⟨gQa, 1, none⟩ = some (.slice A12 n12 c12)) ∧ (w9.cell? ⟨gQb, 0, none⟩ = some (.int .i64 PN) ∧ w9.cell? ⟨gQb, 1, none⟩ = some (.slice A13 n13 c13)) ∧ (w9.cell? ⟨gQc, 0, none⟩ = some (.int .i64 TN) ∧ w9.cell? ⟨gQc, 1, none⟩ = some (.slice A15 n15 c15)) ∧ (w9.cell? ⟨gQd, 0, none⟩ = some (.int .i64 TN) ∧ w9.cell? ⟨gQd, 1, none⟩ = some (.slice A16 n16 c16)) ∧ (w9.cell? ⟨gQe, 0, none⟩ = some (.int .i64 TN) ∧ w9.cell? ⟨gQe, 1, none⟩ = some (.slice A18 n18 c18)) ∧ (w9.cell? ⟨gQf, 0, none⟩ = some (.int .i64 TN) ∧ w9.cell? ⟨gQf, 1, none⟩ = some (.slice A19 n19 c19))) W22.drew := ⟨(Below.refl _ W22).drew, (Qa.out.keep ((Below.refl _ W22).drew)).cs, (Qb.out.keep ((Below.refl _ W22).drew)).cs, (Qc.out.keep ((Below.refl _ W22).drew)).cs, (Qd.out.keep ((Below.refl _ W22).drew)).cs, (Qe.out.keep ((Below.refl _ W22).drew)).cs, (Qf.out.keep ((Below.refl _ W22).drew)).cs⟩
  refine wp_region_held_drew (S := fun w9 => Below W22.heap.size W22 w9 ∧ (w9.cell? ⟨gQa, 0, none⟩ = some (.int .i64 PN) ∧ w9.cell? ⟨gQa, 1, none⟩ = some (.slice A12 n12 c12)) ∧ (w9.cell? ⟨gQb, 0, none⟩ = some (.int .i64 PN) ∧ w9.cell? ⟨gQb, 1, none⟩ = some (.slice A13 n13 c13)) ∧ (w9.cell? ⟨gQc, 0, none⟩ = some (.int .i64 TN) ∧ w9.cell? ⟨gQc, 1, none⟩ = some (.slice A15 n15 c15)) ∧ (w9.cell? ⟨gQd, 0, none⟩ = some (.int .i64 TN) ∧ w9.cell? ⟨gQd, 1, none⟩ = some (.slice A16 n16 c16)) ∧ (w9.cell? ⟨gQe, 0, none⟩ = some (.int .i64 TN) ∧ w9.cell? ⟨gQe, 1, none⟩ = some (.slice A18 n18 c18)) ∧ (w9.cell? ⟨gQf, 0, none⟩ = some (.int .i64 TN) ∧ w9.cell? ⟨gQf, 1, none⟩ = some (.slice A19 n19 c19))) (by kernel_rfl) hHeld0 (fun hHeld => ?_)
  clear hHeld0
  refine wpAnyH_take (i := 0) (oi := { dst := some 90, op := Op.load 28 (Operand.tmp 8), type := 28, pos := "law.go:51", after := #[], guard := none }) (v := ?_) rfl (by kernel_rfl) (by kernel_rfl) (by kernel_rfl) (fun _ _ _ h => h) (Or.inl ⟨by kernel_rfl, ?_⟩) hHeld ?_
  rotate_left
  · intro w9 hSw; (try dsimp only at hSw); go_simp; try with_reducible rfl
  simp only [Act.put, List.setIfInBounds_toArray, List.set_cons_zero, List.set_cons_succ]
  refine wpAnyH_take (i := 2) (oi := { dst := some 92, op := Op.load 24 (Operand.tmp 10), type := 24, pos := "law.go:51", after := #[], guard := none }) (v := ?_) rfl (by kernel_rfl) (by kernel_rfl) (by kernel_rfl) (fun _ _ _ h => h) (Or.inl ⟨by kernel_rfl, ?_⟩) hHeld ?_
  rotate_left
  · intro w9 hSw; (try dsimp only at hSw); go_simp; try with_reducible rfl
  simp only [Act.put, List.setIfInBounds_toArray, List.set_cons_zero, List.set_cons_succ]
  refine wpAnyH_ready (rs := [1]) (by kernel_rfl) (by simp) ?_
  refine AllReadyH.cons (o := { dst := some 91, op := Op.call { callee := Callee.value (Operand.func 19), args := #[Operand.tmp 90], argTypes := #[28] }, type := 24, pos := "law.go:51", after := #[{ on := 0, ground := Ground.data }], guard := none }) rfl (fun K hK => ?_) AllReadyH.nil
  go_simp
  refine (lined_is PN A12 n12 c12 PL _ (by omega) (Qa.out.its.below hHeld.1)).mono ?_; rintro e v1 ⟨A_v1, c_v1, rfl, hi, hb, -⟩; have HS := Lib.hid hi; have HBk := Lib.hid (below_then hHeld.1 hb); clear hi hb
  refine hK.out _ _ (⟨HBk.out, (Qa.out.keep (HBk.out)).cs, (Qb.out.keep (HBk.out)).cs, (Qc.out.keep (HBk.out)).cs, (Qd.out.keep (HBk.out)).cs, (Qe.out.keep (HBk.out)).cs, (Qf.out.keep (HBk.out)).cs⟩) (fun hHeld => ?_)
  clear hK K
  try simp only [Act.put, List.setIfInBounds_toArray, List.set_cons_zero, List.set_cons_succ]
  refine wpAnyH_ready (rs := [3]) (by kernel_rfl) (by simp) ?_
  refine AllReadyH.cons (o := { dst := some 93, op := Op.call { callee := Callee.value (Operand.func 18), args := #[Operand.tmp 91, Operand.tmp 92], argTypes := #[24, 24] }, type := 4, pos := "law.go:51", after := #[{ on := 1, ground := Ground.data }, { on := 2, ground := Ground.data }, { on := 1, ground := Ground.chain }], guard := none }) rfl (fun K hK => ?_) AllReadyH.nil
  go_simp
  refine (rsame_is PN A_v1 n12 c_v1 A13 n13 c13 _ _ (by omega) HS.out (Qb.out.its.below hHeld.1)).mono ?_; rintro e v2 ⟨rfl, hb⟩; have HBk := Lib.hid (below_then hHeld.1 hb); clear hb
  refine hK.out _ _ (⟨HBk.out, (Qa.out.keep (HBk.out)).cs, (Qb.out.keep (HBk.out)).cs, (Qc.out.keep (HBk.out)).cs, (Qd.out.keep (HBk.out)).cs, (Qe.out.keep (HBk.out)).cs, (Qf.out.keep (HBk.out)).cs⟩) (fun hHeld => ?_)
  clear hK K
  try simp only [Act.put, List.setIfInBounds_toArray, List.set_cons_zero, List.set_cons_succ]
  refine wpAnyH_take (i := 4) (oi := { dst := some 94, op := Op.unOp UnOp.not 4 (Operand.tmp 93), type := 4, pos := "law.go:51", after := #[{ on := 3, ground := Ground.data }], guard := none }) (v := ?_) rfl (by kernel_rfl) (by kernel_rfl) (by kernel_rfl) (fun _ _ _ h => h) (Or.inl ⟨by kernel_rfl, ?_⟩) hHeld ?_
  rotate_left
  · intro w9 hSw; (try dsimp only at hSw); go_simp; try with_reducible rfl
  simp only [Act.put, List.setIfInBounds_toArray, List.set_cons_zero, List.set_cons_succ]
  refine wpAnyH_take (i := 5) (oi := { dst := some 95, op := Op.move (Operand.tmp 94), type := 4, pos := "law.go:51", after := #[{ on := 4, ground := Ground.data }, { on := 3, ground := Ground.chain }], guard := none }) (v := ?_) rfl (by kernel_rfl) (by kernel_rfl) (by kernel_rfl) (fun _ _ _ h => h) (Or.inl ⟨by kernel_rfl, ?_⟩) hHeld ?_
  rotate_left
  · intro w9 hSw; (try dsimp only at hSw); go_simp; try with_reducible rfl
  simp only [Act.put, List.setIfInBounds_toArray, List.set_cons_zero, List.set_cons_succ]
  refine wpAnyH_take (i := 6) (oi := { dst := some 96, op := Op.move (Operand.tmp 9), type := 4, pos := "law.go:51", after := #[{ on := 5, ground := Ground.guard }], guard := some (5, false) }) (v := ?_) rfl (by kernel_rfl) (by kernel_rfl) (by kernel_rfl) (fun _ _ _ h => h) (Or.inl ⟨by kernel_rfl, ?_⟩) hHeld ?_
  rotate_left
  · intro w9 hSw; (try dsimp only at hSw); go_simp; try with_reducible rfl
  simp only [Act.put, List.setIfInBounds_toArray, List.set_cons_zero, List.set_cons_succ]
  refine wpAnyH_take (i := 7) (oi := { dst := some 97, op := Op.move (Operand.tmp 11), type := 4, pos := "law.go:51", after := #[{ on := 5, ground := Ground.guard }], guard := some (5, false) }) (v := ?_) rfl (by kernel_rfl) (by kernel_rfl) (by kernel_rfl) (fun _ _ _ h => h) (Or.inl ⟨by kernel_rfl, ?_⟩) hHeld ?_
  rotate_left
  · intro w9 hSw; (try dsimp only at hSw); go_simp; try with_reducible rfl
  simp only [Act.put, List.setIfInBounds_toArray, List.set_cons_zero, List.set_cons_succ]
  refine wpAnyH_take (i := 8) (oi := { dst := some 98, op := Op.binOp BinOp.neq 4 (Operand.tmp 96) (Operand.tmp 97) 4, type := 4, pos := "law.go:51", after := #[{ on := 6, ground := Ground.data }, { on := 7, ground := Ground.data }, { on := 5, ground := Ground.guard }], guard := some (5, false) }) (v := ?_) rfl (by kernel_rfl) (by kernel_rfl) (by kernel_rfl) (fun _ _ _ h => h) (Or.inl ⟨by kernel_rfl, ?_⟩) hHeld ?_
  rotate_left
  · intro w9 hSw; (try dsimp only at hSw); go_simp; try with_reducible rfl
  simp only [Act.put, List.setIfInBounds_toArray, List.set_cons_zero, List.set_cons_succ]
  refine wpAnyH_take (i := 9) (oi := { dst := some 99, op := Op.pick (Operand.tmp 95) (Operand.const (Value.bool true)) (Operand.tmp 98), type := 4, pos := "law.go:51", after := #[{ on := 5, ground := Ground.data }, { on := 8, ground := Ground.data }], guard := none }) (v := ?_) rfl (by kernel_rfl) (by kernel_rfl) (by kernel_rfl) (fun _ _ _ h => h) (Or.inl ⟨by kernel_rfl, ?_⟩) hHeld ?_
  rotate_left
  · intro w9 hSw; (try dsimp only at hSw); go_simp; try with_reducible rfl
  simp only [Act.put, List.setIfInBounds_toArray, List.set_cons_zero, List.set_cons_succ]
  refine wpAnyH_take (i := 10) (oi := { dst := some 100, op := Op.move (Operand.tmp 99), type := 4, pos := "law.go:51", after := #[{ on := 9, ground := Ground.data }, { on := 5, ground := Ground.chain }], guard := none }) (v := ?_) rfl (by kernel_rfl) (by kernel_rfl) (by kernel_rfl) (fun _ _ _ h => h) (Or.inl ⟨by kernel_rfl, ?_⟩) hHeld ?_
  rotate_left
  · intro w9 hSw; (try dsimp only at hSw); go_simp; try with_reducible rfl
  simp only [Act.put, List.setIfInBounds_toArray, List.set_cons_zero, List.set_cons_succ]
  refine wpAnyH_take (i := 11) (oi := { dst := some 101, op := Op.load 28 (Operand.tmp 12), type := 28, pos := "law.go:51", after := #[{ on := 10, ground := Ground.guard }], guard := some (10, false) }) (v := ?_) rfl (by kernel_rfl) (by kernel_rfl) (by kernel_rfl) (fun _ _ _ h => h) (Or.inl ⟨by kernel_rfl, ?_⟩) hHeld ?_
  rotate_left
  · intro w9 hSw; (try dsimp only at hSw); go_simp; try with_reducible rfl
  simp only [Act.put, List.setIfInBounds_toArray, List.set_cons_zero, List.set_cons_succ]
  refine wpAnyH_take (i := 13) (oi := { dst := some 103, op := Op.load 24 (Operand.tmp 15), type := 24, pos := "law.go:51", after := #[{ on := 10, ground := Ground.guard }], guard := some (10, false) }) (v := ?_) rfl (by kernel_rfl) (by kernel_rfl) (by kernel_rfl) (fun _ _ _ h => h) (Or.inl ⟨by kernel_rfl, ?_⟩) hHeld ?_
  rotate_left
  · intro w9 hSw; (try dsimp only at hSw); go_simp; try with_reducible rfl
  simp only [Act.put, List.setIfInBounds_toArray, List.set_cons_zero, List.set_cons_succ]
  refine wpAnyH_ready (rs := [12]) (by kernel_rfl) (by simp) ?_
  refine AllReadyH.cons (o := { dst := some 102, op := Op.call { callee := Callee.value (Operand.func 19), args := #[Operand.tmp 101], argTypes := #[28] }, type := 24, pos := "law.go:51", after := #[{ on := 11, ground := Ground.data }, { on := 10, ground := Ground.chain }, { on := 10, ground := Ground.guard }], guard := some (10, false) }) rfl (fun K hK => ?_) AllReadyH.nil
  go_simp
  refine (lined_is TN A15 n15 c15 NL _ (by omega) (Qc.out.its.below hHeld.1)).mono ?_; rintro e v3 ⟨A_v3, c_v3, rfl, hi, hb, -⟩; have HS := Lib.hid hi; have HBk := Lib.hid (below_then hHeld.1 hb); clear hi hb
  refine hK.out _ _ (⟨HBk.out, (Qa.out.keep (HBk.out)).cs, (Qb.out.keep (HBk.out)).cs, (Qc.out.keep (HBk.out)).cs, (Qd.out.keep (HBk.out)).cs, (Qe.out.keep (HBk.out)).cs, (Qf.out.keep (HBk.out)).cs⟩) (fun hHeld => ?_)
  clear hK K
  try simp only [Act.put, List.setIfInBounds_toArray, List.set_cons_zero, List.set_cons_succ]
  refine wpAnyH_ready (rs := [14]) (by kernel_rfl) (by simp) ?_
  refine AllReadyH.cons (o := { dst := some 104, op := Op.call { callee := Callee.value (Operand.func 18), args := #[Operand.tmp 102, Operand.tmp 103], argTypes := #[24, 24] }, type := 4, pos := "law.go:51", after := #[{ on := 12, ground := Ground.data }, { on := 13, ground := Ground.data }, { on := 12, ground := Ground.chain }, { on := 10, ground := Ground.guard }], guard := some (10, false) }) rfl (fun K hK => ?_) AllReadyH.nil
  go_simp
  refine (rsame_is TN A_v3 n15 c_v3 A16 n16 c16 _ _ (by omega) HS.out (Qd.out.its.below hHeld.1)).mono ?_; rintro e v4 ⟨rfl, hb⟩; have HBk := Lib.hid (below_then hHeld.1 hb); clear hb
  refine hK.out _ _ (⟨HBk.out, (Qa.out.keep (HBk.out)).cs, (Qb.out.keep (HBk.out)).cs, (Qc.out.keep (HBk.out)).cs, (Qd.out.keep (HBk.out)).cs, (Qe.out.keep (HBk.out)).cs, (Qf.out.keep (HBk.out)).cs⟩) (fun hHeld => ?_)
  clear hK K
  try simp only [Act.put, List.setIfInBounds_toArray, List.set_cons_zero, List.set_cons_succ]
  refine wpAnyH_take (i := 15) (oi := { dst := some 105, op := Op.unOp UnOp.not 4 (Operand.tmp 104), type := 4, pos := "law.go:51", after := #[{ on := 14, ground := Ground.data }, { on := 10, ground := Ground.guard }], guard := some (10, false) }) (v := ?_) rfl (by kernel_rfl) (by kernel_rfl) (by kernel_rfl) (fun _ _ _ h => h) (Or.inl ⟨by kernel_rfl, ?_⟩) hHeld ?_
  rotate_left
  · intro w9 hSw; (try dsimp only at hSw); go_simp; try with_reducible rfl
  simp only [Act.put, List.setIfInBounds_toArray, List.set_cons_zero, List.set_cons_succ]
  refine wpAnyH_take (i := 16) (oi := { dst := some 106, op := Op.pick (Operand.tmp 100) (Operand.const (Value.bool true)) (Operand.tmp 105), type := 4, pos := "law.go:51", after := #[{ on := 10, ground := Ground.data }, { on := 15, ground := Ground.data }], guard := none }) (v := ?_) rfl (by kernel_rfl) (by kernel_rfl) (by kernel_rfl) (fun _ _ _ h => h) (Or.inl ⟨by kernel_rfl, ?_⟩) hHeld ?_
  rotate_left
  · intro w9 hSw; (try dsimp only at hSw); go_simp; try with_reducible rfl
  simp only [Act.put, List.setIfInBounds_toArray, List.set_cons_zero, List.set_cons_succ]
  refine wpAnyH_take (i := 17) (oi := { dst := some 107, op := Op.move (Operand.tmp 106), type := 4, pos := "law.go:51", after := #[{ on := 16, ground := Ground.data }, { on := 14, ground := Ground.chain }], guard := none }) (v := ?_) rfl (by kernel_rfl) (by kernel_rfl) (by kernel_rfl) (fun _ _ _ h => h) (Or.inl ⟨by kernel_rfl, ?_⟩) hHeld ?_
  rotate_left
  · intro w9 hSw; (try dsimp only at hSw); go_simp; try with_reducible rfl
  simp only [Act.put, List.setIfInBounds_toArray, List.set_cons_zero, List.set_cons_succ]
  refine wpAnyH_take (i := 18) (oi := { dst := some 108, op := Op.move (Operand.tmp 13), type := 3, pos := "law.go:51", after := #[{ on := 17, ground := Ground.guard }], guard := some (17, false) }) (v := ?_) rfl (by kernel_rfl) (by kernel_rfl) (by kernel_rfl) (fun _ _ _ h => h) (Or.inl ⟨by kernel_rfl, ?_⟩) hHeld ?_
  rotate_left
  · intro w9 hSw; (try dsimp only at hSw); go_simp; try with_reducible rfl
  simp only [Act.put, List.setIfInBounds_toArray, List.set_cons_zero, List.set_cons_succ]
  refine wpAnyH_take (i := 19) (oi := { dst := some 109, op := Op.move (Operand.tmp 16), type := 3, pos := "law.go:51", after := #[{ on := 17, ground := Ground.guard }], guard := some (17, false) }) (v := ?_) rfl (by kernel_rfl) (by kernel_rfl) (by kernel_rfl) (fun _ _ _ h => h) (Or.inl ⟨by kernel_rfl, ?_⟩) hHeld ?_
  rotate_left
  · intro w9 hSw; (try dsimp only at hSw); go_simp; try with_reducible rfl
  simp only [Act.put, List.setIfInBounds_toArray, List.set_cons_zero, List.set_cons_succ]
  refine wpAnyH_take (i := 20) (oi := { dst := some 110, op := Op.binOp BinOp.neq 3 (Operand.tmp 108) (Operand.tmp 109) 3, type := 4, pos := "law.go:51", after := #[{ on := 18, ground := Ground.data }, { on := 19, ground := Ground.data }, { on := 17, ground := Ground.guard }], guard := some (17, false) }) (v := ?_) rfl (by kernel_rfl) (by kernel_rfl) (by kernel_rfl) (fun _ _ _ h => h) (Or.inl ⟨by kernel_rfl, ?_⟩) hHeld ?_
  rotate_left
  · intro w9 hSw; (try dsimp only at hSw); go_simp; try with_reducible rfl
  simp only [Act.put, List.setIfInBounds_toArray, List.set_cons_zero, List.set_cons_succ]
  refine wpAnyH_take (i := 21) (oi := { dst := some 111, op := Op.pick (Operand.tmp 107) (Operand.const (Value.bool true)) (Operand.tmp 110), type := 4, pos := "law.go:51", after := #[{ on := 17, ground := Ground.data }, { on := 20, ground := Ground.data }], guard := none }) (v := ?_) rfl (by kernel_rfl) (by kernel_rfl) (by kernel_rfl) (fun _ _ _ h => h) (Or.inl ⟨by kernel_rfl, ?_⟩) hHeld ?_
  rotate_left
  · intro w9 hSw; (try dsimp only at hSw); go_simp; try with_reducible rfl
  simp only [Act.put, List.setIfInBounds_toArray, List.set_cons_zero, List.set_cons_succ]
  refine wpAnyH_take (i := 22) (oi := { dst := some 112, op := Op.move (Operand.tmp 111), type := 4, pos := "law.go:51", after := #[{ on := 21, ground := Ground.data }, { on := 17, ground := Ground.chain }], guard := none }) (v := ?_) rfl (by kernel_rfl) (by kernel_rfl) (by kernel_rfl) (fun _ _ _ h => h) (Or.inl ⟨by kernel_rfl, ?_⟩) hHeld ?_
  rotate_left
  · intro w9 hSw; (try dsimp only at hSw); go_simp; try with_reducible rfl
  simp only [Act.put, List.setIfInBounds_toArray, List.set_cons_zero, List.set_cons_succ]
  refine wpAnyH_take (i := 23) (oi := { dst := some 113, op := Op.move (Operand.tmp 14), type := 4, pos := "law.go:51", after := #[{ on := 22, ground := Ground.guard }], guard := some (22, false) }) (v := ?_) rfl (by kernel_rfl) (by kernel_rfl) (by kernel_rfl) (fun _ _ _ h => h) (Or.inl ⟨by kernel_rfl, ?_⟩) hHeld ?_
  rotate_left
  · intro w9 hSw; (try dsimp only at hSw); go_simp; try with_reducible rfl
  simp only [Act.put, List.setIfInBounds_toArray, List.set_cons_zero, List.set_cons_succ]
  refine wpAnyH_take (i := 24) (oi := { dst := some 114, op := Op.move (Operand.tmp 17), type := 4, pos := "law.go:51", after := #[{ on := 22, ground := Ground.guard }], guard := some (22, false) }) (v := ?_) rfl (by kernel_rfl) (by kernel_rfl) (by kernel_rfl) (fun _ _ _ h => h) (Or.inl ⟨by kernel_rfl, ?_⟩) hHeld ?_
  rotate_left
  · intro w9 hSw; (try dsimp only at hSw); go_simp; try with_reducible rfl
  simp only [Act.put, List.setIfInBounds_toArray, List.set_cons_zero, List.set_cons_succ]
  refine wpAnyH_take (i := 25) (oi := { dst := some 115, op := Op.binOp BinOp.neq 4 (Operand.tmp 113) (Operand.tmp 114) 4, type := 4, pos := "law.go:51", after := #[{ on := 23, ground := Ground.data }, { on := 24, ground := Ground.data }, { on := 22, ground := Ground.guard }], guard := some (22, false) }) (v := ?_) rfl (by kernel_rfl) (by kernel_rfl) (by kernel_rfl) (fun _ _ _ h => h) (Or.inl ⟨by kernel_rfl, ?_⟩) hHeld ?_
  rotate_left
  · intro w9 hSw; (try dsimp only at hSw); go_simp; try with_reducible rfl
  simp only [Act.put, List.setIfInBounds_toArray, List.set_cons_zero, List.set_cons_succ]
  refine wpAnyH_take (i := 26) (oi := { dst := some 116, op := Op.pick (Operand.tmp 112) (Operand.const (Value.bool true)) (Operand.tmp 115), type := 4, pos := "law.go:51", after := #[{ on := 22, ground := Ground.data }, { on := 25, ground := Ground.data }], guard := none }) (v := ?_) rfl (by kernel_rfl) (by kernel_rfl) (by kernel_rfl) (fun _ _ _ h => h) (Or.inl ⟨by kernel_rfl, ?_⟩) hHeld ?_
  rotate_left
  · intro w9 hSw; (try dsimp only at hSw); go_simp; try with_reducible rfl
  simp only [Act.put, List.setIfInBounds_toArray, List.set_cons_zero, List.set_cons_succ]
  refine wpAnyH_take (i := 27) (oi := { dst := some 117, op := Op.move (Operand.tmp 116), type := 4, pos := "law.go:51", after := #[{ on := 26, ground := Ground.data }, { on := 22, ground := Ground.chain }], guard := none }) (v := ?_) rfl (by kernel_rfl) (by kernel_rfl) (by kernel_rfl) (fun _ _ _ h => h) (Or.inl ⟨by kernel_rfl, ?_⟩) hHeld ?_
  rotate_left
  · intro w9 hSw; (try dsimp only at hSw); go_simp; try with_reducible rfl
  simp only [Act.put, List.setIfInBounds_toArray, List.set_cons_zero, List.set_cons_succ]
  refine wpAnyH_take (i := 28) (oi := { dst := some 118, op := Op.load 28 (Operand.tmp 18), type := 28, pos := "law.go:51", after := #[{ on := 27, ground := Ground.guard }], guard := some (27, false) }) (v := ?_) rfl (by kernel_rfl) (by kernel_rfl) (by kernel_rfl) (fun _ _ _ h => h) (Or.inl ⟨by kernel_rfl, ?_⟩) hHeld ?_
  rotate_left
  · intro w9 hSw; (try dsimp only at hSw); go_simp; try with_reducible rfl
  simp only [Act.put, List.setIfInBounds_toArray, List.set_cons_zero, List.set_cons_succ]
  refine wpAnyH_take (i := 30) (oi := { dst := some 120, op := Op.load 24 (Operand.tmp 21), type := 24, pos := "law.go:51", after := #[{ on := 27, ground := Ground.guard }], guard := some (27, false) }) (v := ?_) rfl (by kernel_rfl) (by kernel_rfl) (by kernel_rfl) (fun _ _ _ h => h) (Or.inl ⟨by kernel_rfl, ?_⟩) hHeld ?_
  rotate_left
  · intro w9 hSw; (try dsimp only at hSw); go_simp; try with_reducible rfl
  simp only [Act.put, List.setIfInBounds_toArray, List.set_cons_zero, List.set_cons_succ]
  refine wpAnyH_ready (rs := [29]) (by kernel_rfl) (by simp) ?_
  refine AllReadyH.cons (o := { dst := some 119, op := Op.call { callee := Callee.value (Operand.func 19), args := #[Operand.tmp 118], argTypes := #[28] }, type := 24, pos := "law.go:51", after := #[{ on := 28, ground := Ground.data }, { on := 27, ground := Ground.chain }, { on := 27, ground := Ground.guard }], guard := some (27, false) }) rfl (fun K hK => ?_) AllReadyH.nil
  go_simp
  refine (lined_is TN A18 n18 c18 TL _ (by omega) (Qe.out.its.below hHeld.1)).mono ?_; rintro e v5 ⟨A_v5, c_v5, rfl, hi, hb, -⟩; have HS := Lib.hid hi; have HBk := Lib.hid (below_then hHeld.1 hb); clear hi hb
  refine hK.out _ _ (⟨HBk.out, (Qa.out.keep (HBk.out)).cs, (Qb.out.keep (HBk.out)).cs, (Qc.out.keep (HBk.out)).cs, (Qd.out.keep (HBk.out)).cs, (Qe.out.keep (HBk.out)).cs, (Qf.out.keep (HBk.out)).cs⟩) (fun hHeld => ?_)
  clear hK K
  try simp only [Act.put, List.setIfInBounds_toArray, List.set_cons_zero, List.set_cons_succ]
  refine wpAnyH_ready (rs := [31]) (by kernel_rfl) (by simp) ?_
  refine AllReadyH.cons (o := { dst := some 121, op := Op.call { callee := Callee.value (Operand.func 18), args := #[Operand.tmp 119, Operand.tmp 120], argTypes := #[24, 24] }, type := 4, pos := "law.go:51", after := #[{ on := 29, ground := Ground.data }, { on := 30, ground := Ground.data }, { on := 29, ground := Ground.chain }, { on := 27, ground := Ground.guard }], guard := some (27, false) }) rfl (fun K hK => ?_) AllReadyH.nil
  go_simp
  refine (rsame_is TN A_v5 n18 c_v5 A19 n19 c19 _ _ (by omega) HS.out (Qf.out.its.below hHeld.1)).mono ?_; rintro e v6 ⟨rfl, hb⟩; have HBk := Lib.hid (below_then hHeld.1 hb); clear hb
  refine hK.out _ _ (⟨HBk.out, (Qa.out.keep (HBk.out)).cs, (Qb.out.keep (HBk.out)).cs, (Qc.out.keep (HBk.out)).cs, (Qd.out.keep (HBk.out)).cs, (Qe.out.keep (HBk.out)).cs, (Qf.out.keep (HBk.out)).cs⟩) (fun hHeld => ?_)
  clear hK K
  try simp only [Act.put, List.setIfInBounds_toArray, List.set_cons_zero, List.set_cons_succ]
  refine wpAnyH_take (i := 32) (oi := { dst := some 122, op := Op.unOp UnOp.not 4 (Operand.tmp 121), type := 4, pos := "law.go:51", after := #[{ on := 31, ground := Ground.data }, { on := 27, ground := Ground.guard }], guard := some (27, false) }) (v := ?_) rfl (by kernel_rfl) (by kernel_rfl) (by kernel_rfl) (fun _ _ _ h => h) (Or.inl ⟨by kernel_rfl, ?_⟩) hHeld ?_
  rotate_left
  · intro w9 hSw; (try dsimp only at hSw); go_simp; try with_reducible rfl
  simp only [Act.put, List.setIfInBounds_toArray, List.set_cons_zero, List.set_cons_succ]
  refine wpAnyH_take (i := 33) (oi := { dst := some 123, op := Op.pick (Operand.tmp 117) (Operand.const (Value.bool true)) (Operand.tmp 122), type := 4, pos := "law.go:51", after := #[{ on := 27, ground := Ground.data }, { on := 32, ground := Ground.data }], guard := none }) (v := ?_) rfl (by kernel_rfl) (by kernel_rfl) (by kernel_rfl) (fun _ _ _ h => h) (Or.inl ⟨by kernel_rfl, ?_⟩) hHeld ?_
  rotate_left
  · intro w9 hSw; (try dsimp only at hSw); go_simp; try with_reducible rfl
  simp only [Act.put, List.setIfInBounds_toArray, List.set_cons_zero, List.set_cons_succ]
  refine wpAnyH_take (i := 34) (oi := { dst := some 124, op := Op.move (Operand.tmp 123), type := 4, pos := "law.go:51", after := #[{ on := 33, ground := Ground.data }, { on := 31, ground := Ground.chain }], guard := none }) (v := ?_) rfl (by kernel_rfl) (by kernel_rfl) (by kernel_rfl) (fun _ _ _ h => h) (Or.inl ⟨by kernel_rfl, ?_⟩) hHeld ?_
  rotate_left
  · intro w9 hSw; (try dsimp only at hSw); go_simp; try with_reducible rfl
  simp only [Act.put, List.setIfInBounds_toArray, List.set_cons_zero, List.set_cons_succ]
  refine wpAnyH_take (i := 35) (oi := { dst := some 125, op := Op.move (Operand.tmp 19), type := 3, pos := "law.go:51", after := #[{ on := 34, ground := Ground.guard }], guard := some (34, false) }) (v := ?_) rfl (by kernel_rfl) (by kernel_rfl) (by kernel_rfl) (fun _ _ _ h => h) (Or.inl ⟨by kernel_rfl, ?_⟩) hHeld ?_
  rotate_left
  · intro w9 hSw; (try dsimp only at hSw); go_simp; try with_reducible rfl
  simp only [Act.put, List.setIfInBounds_toArray, List.set_cons_zero, List.set_cons_succ]
  refine wpAnyH_take (i := 36) (oi := { dst := some 126, op := Op.move (Operand.tmp 22), type := 3, pos := "law.go:51", after := #[{ on := 34, ground := Ground.guard }], guard := some (34, false) }) (v := ?_) rfl (by kernel_rfl) (by kernel_rfl) (by kernel_rfl) (fun _ _ _ h => h) (Or.inl ⟨by kernel_rfl, ?_⟩) hHeld ?_
  rotate_left
  · intro w9 hSw; (try dsimp only at hSw); go_simp; try with_reducible rfl
  simp only [Act.put, List.setIfInBounds_toArray, List.set_cons_zero, List.set_cons_succ]
  refine wpAnyH_take (i := 37) (oi := { dst := some 127, op := Op.binOp BinOp.neq 3 (Operand.tmp 125) (Operand.tmp 126) 3, type := 4, pos := "law.go:51", after := #[{ on := 35, ground := Ground.data }, { on := 36, ground := Ground.data }, { on := 34, ground := Ground.guard }], guard := some (34, false) }) (v := ?_) rfl (by kernel_rfl) (by kernel_rfl) (by kernel_rfl) (fun _ _ _ h => h) (Or.inl ⟨by kernel_rfl, ?_⟩) hHeld ?_
  rotate_left
  · intro w9 hSw; (try dsimp only at hSw); go_simp; try with_reducible rfl
  simp only [Act.put, List.setIfInBounds_toArray, List.set_cons_zero, List.set_cons_succ]
  refine wpAnyH_take (i := 38) (oi := { dst := some 128, op := Op.pick (Operand.tmp 124) (Operand.const (Value.bool true)) (Operand.tmp 127), type := 4, pos := "law.go:51", after := #[{ on := 34, ground := Ground.data }, { on := 37, ground := Ground.data }], guard := none }) (v := ?_) rfl (by kernel_rfl) (by kernel_rfl) (by kernel_rfl) (fun _ _ _ h => h) (Or.inl ⟨by kernel_rfl, ?_⟩) hHeld ?_
  rotate_left
  · intro w9 hSw; (try dsimp only at hSw); go_simp; try with_reducible rfl
  simp only [Act.put, List.setIfInBounds_toArray, List.set_cons_zero, List.set_cons_succ]
  refine wpAnyH_take (i := 39) (oi := { dst := some 129, op := Op.move (Operand.tmp 128), type := 4, pos := "law.go:51", after := #[{ on := 38, ground := Ground.data }, { on := 34, ground := Ground.chain }], guard := none }) (v := ?_) rfl (by kernel_rfl) (by kernel_rfl) (by kernel_rfl) (fun _ _ _ h => h) (Or.inl ⟨by kernel_rfl, ?_⟩) hHeld ?_
  rotate_left
  · intro w9 hSw; (try dsimp only at hSw); go_simp; try with_reducible rfl
  simp only [Act.put, List.setIfInBounds_toArray, List.set_cons_zero, List.set_cons_succ]
  refine wpAnyH_take (i := 40) (oi := { dst := some 130, op := Op.move (Operand.tmp 20), type := 4, pos := "law.go:51", after := #[{ on := 39, ground := Ground.guard }], guard := some (39, false) }) (v := ?_) rfl (by kernel_rfl) (by kernel_rfl) (by kernel_rfl) (fun _ _ _ h => h) (Or.inl ⟨by kernel_rfl, ?_⟩) hHeld ?_
  rotate_left
  · intro w9 hSw; (try dsimp only at hSw); go_simp; try with_reducible rfl
  simp only [Act.put, List.setIfInBounds_toArray, List.set_cons_zero, List.set_cons_succ]
  refine wpAnyH_take (i := 41) (oi := { dst := some 131, op := Op.move (Operand.tmp 23), type := 4, pos := "law.go:51", after := #[{ on := 39, ground := Ground.guard }], guard := some (39, false) }) (v := ?_) rfl (by kernel_rfl) (by kernel_rfl) (by kernel_rfl) (fun _ _ _ h => h) (Or.inl ⟨by kernel_rfl, ?_⟩) hHeld ?_
  rotate_left
  · intro w9 hSw; (try dsimp only at hSw); go_simp; try with_reducible rfl
  simp only [Act.put, List.setIfInBounds_toArray, List.set_cons_zero, List.set_cons_succ]
  refine wpAnyH_take (i := 42) (oi := { dst := some 132, op := Op.binOp BinOp.neq 4 (Operand.tmp 130) (Operand.tmp 131) 4, type := 4, pos := "law.go:51", after := #[{ on := 40, ground := Ground.data }, { on := 41, ground := Ground.data }, { on := 39, ground := Ground.guard }], guard := some (39, false) }) (v := ?_) rfl (by kernel_rfl) (by kernel_rfl) (by kernel_rfl) (fun _ _ _ h => h) (Or.inl ⟨by kernel_rfl, ?_⟩) hHeld ?_
  rotate_left
  · intro w9 hSw; (try dsimp only at hSw); go_simp; try with_reducible rfl
  simp only [Act.put, List.setIfInBounds_toArray, List.set_cons_zero, List.set_cons_succ]
  refine wpAnyH_take (i := 43) (oi := { dst := some 133, op := Op.pick (Operand.tmp 129) (Operand.const (Value.bool true)) (Operand.tmp 132), type := 4, pos := "law.go:51", after := #[{ on := 39, ground := Ground.data }, { on := 42, ground := Ground.data }], guard := none }) (v := ?_) rfl (by kernel_rfl) (by kernel_rfl) (by kernel_rfl) (fun _ _ _ h => h) (Or.inl ⟨by kernel_rfl, ?_⟩) hHeld ?_
  rotate_left
  · intro w9 hSw; (try dsimp only at hSw); go_simp; try with_reducible rfl
  simp only [Act.put, List.setIfInBounds_toArray, List.set_cons_zero, List.set_cons_succ]
  refine wpAnyH_done (by kernel_rfl) ?_ _
  have HB12 := Lib.hid hHeld.1
  clear hHeld
  go_upto_region 14 with (fail)
  have hHeld0 : (fun w9 => Below W22.heap.size W22 w9 ∧ (w9.cell? ⟨w.heap.size, 0, none⟩ = some (.int .i64 N) ∧ w9.cell? ⟨w.heap.size, 1, none⟩ = some (.slice A n c)) ∧ (w9.cell? ⟨gQi, 0, none⟩ = some (.int .i64 TN) ∧ w9.cell? ⟨gQi, 1, none⟩ = some (.slice A21 n21 c21)) ∧ (w9.cell? ⟨gQj, 0, none⟩ = some (.int .i64 TN) ∧ w9.cell? ⟨gQj, 1, none⟩ = some (.slice A22 n22 c22))) v6.drew := ⟨HB12.out.drew, (QQ.out.keep (HB12.out.drew)).cs, (Qi.out.keep (HB12.out.drew)).cs, (Qj.out.keep (HB12.out.drew)).cs⟩
  refine wp_region_held_drew (S := fun w9 => Below W22.heap.size W22 w9 ∧ (w9.cell? ⟨w.heap.size, 0, none⟩ = some (.int .i64 N) ∧ w9.cell? ⟨w.heap.size, 1, none⟩ = some (.slice A n c)) ∧ (w9.cell? ⟨gQi, 0, none⟩ = some (.int .i64 TN) ∧ w9.cell? ⟨gQi, 1, none⟩ = some (.slice A21 n21 c21)) ∧ (w9.cell? ⟨gQj, 0, none⟩ = some (.int .i64 TN) ∧ w9.cell? ⟨gQj, 1, none⟩ = some (.slice A22 n22 c22))) (by kernel_rfl) hHeld0 (fun hHeld => ?_)
  clear hHeld0
  refine wpAnyH_take (i := 0) (oi := { dst := some 134, op := Op.move (Operand.tmp 7), type := 4, pos := "law.go:54", after := #[], guard := none }) (v := ?_) rfl (by kernel_rfl) (by kernel_rfl) (by kernel_rfl) (fun _ _ _ h => h) (Or.inl ⟨by kernel_rfl, ?_⟩) hHeld ?_
  rotate_left
  · intro w9 hSw; (try dsimp only at hSw); go_simp; try with_reducible rfl
  simp only [Act.put, List.setIfInBounds_toArray, List.set_cons_zero, List.set_cons_succ]
  refine wpAnyH_take (i := 1) (oi := { dst := some 135, op := Op.move (Operand.tmp 134), type := 4, pos := "law.go:54", after := #[{ on := 0, ground := Ground.data }], guard := none }) (v := ?_) rfl (by kernel_rfl) (by kernel_rfl) (by kernel_rfl) (fun _ _ _ h => h) (Or.inl ⟨by kernel_rfl, ?_⟩) hHeld ?_
  rotate_left
  · intro w9 hSw; (try dsimp only at hSw); go_simp; try with_reducible rfl
  simp only [Act.put, List.setIfInBounds_toArray, List.set_cons_zero, List.set_cons_succ]
  refine wpAnyH_take (i := 2) (oi := { dst := some 136, op := Op.load 28 (Operand.tmp 24), type := 28, pos := "law.go:54", after := #[{ on := 1, ground := Ground.guard }], guard := some (1, true) }) (v := ?_) rfl (by kernel_rfl) (by kernel_rfl) (by kernel_rfl) (fun _ _ _ h => h) (Or.inl ⟨by kernel_rfl, ?_⟩) hHeld ?_
  rotate_left
  · intro w9 hSw; (try dsimp only at hSw); go_simp; try with_reducible rfl
  simp only [Act.put, List.setIfInBounds_toArray, List.set_cons_zero, List.set_cons_succ]
  refine wpAnyH_take (i := 4) (oi := { dst := some 138, op := Op.load 24 (Operand.tmp 26), type := 24, pos := "law.go:54", after := #[{ on := 1, ground := Ground.guard }], guard := some (1, true) }) (v := ?_) rfl (by kernel_rfl) (by kernel_rfl) (by kernel_rfl) (fun _ _ _ h => h) (Or.inl ⟨by kernel_rfl, ?_⟩) hHeld ?_
  rotate_left
  · intro w9 hSw; (try dsimp only at hSw); go_simp; try with_reducible rfl
  simp only [Act.put, List.setIfInBounds_toArray, List.set_cons_zero, List.set_cons_succ]
  refine wpAnyH_ready (rs := [3]) (by kernel_rfl) (by simp) ?_
  refine AllReadyH.cons (o := { dst := some 137, op := Op.call { callee := Callee.value (Operand.func 19), args := #[Operand.tmp 136], argTypes := #[28] }, type := 24, pos := "law.go:54", after := #[{ on := 2, ground := Ground.data }, { on := 1, ground := Ground.chain }, { on := 1, ground := Ground.guard }], guard := some (1, true) }) rfl (fun K hK => ?_) AllReadyH.nil
  go_simp
  refine (lined_is TN A21 n21 c21 DL _ (by omega) (Qi.out.its.below hHeld.1)).mono ?_; rintro e u1 ⟨A_u1, c_u1, rfl, hi, hb, -⟩; have HS := Lib.hid hi; have HBk := Lib.hid (below_then hHeld.1 hb); clear hi hb
  refine hK.out _ _ (⟨HBk.out, (QQ.out.keep (HBk.out)).cs, (Qi.out.keep (HBk.out)).cs, (Qj.out.keep (HBk.out)).cs⟩) (fun hHeld => ?_)
  clear hK K
  try simp only [Act.put, List.setIfInBounds_toArray, List.set_cons_zero, List.set_cons_succ]
  refine wpAnyH_ready (rs := [5]) (by kernel_rfl) (by simp) ?_
  refine AllReadyH.cons (o := { dst := some 139, op := Op.call { callee := Callee.value (Operand.func 18), args := #[Operand.tmp 137, Operand.tmp 138], argTypes := #[24, 24] }, type := 4, pos := "law.go:54", after := #[{ on := 3, ground := Ground.data }, { on := 4, ground := Ground.data }, { on := 3, ground := Ground.chain }, { on := 1, ground := Ground.guard }], guard := some (1, true) }) rfl (fun K hK => ?_) AllReadyH.nil
  go_simp
  refine (rsame_is TN A_u1 n21 c_u1 A22 n22 c22 _ _ (by omega) HS.out (Qj.out.its.below hHeld.1)).mono ?_; rintro e u2 ⟨rfl, hb⟩; have HBk := Lib.hid (below_then hHeld.1 hb); clear hb
  refine hK.out _ _ (⟨HBk.out, (QQ.out.keep (HBk.out)).cs, (Qi.out.keep (HBk.out)).cs, (Qj.out.keep (HBk.out)).cs⟩) (fun hHeld => ?_)
  clear hK K
  try simp only [Act.put, List.setIfInBounds_toArray, List.set_cons_zero, List.set_cons_succ]
  refine wpAnyH_take (i := 6) (oi := { dst := some 140, op := Op.pick (Operand.tmp 135) (Operand.tmp 139) (Operand.const (Value.bool false)), type := 4, pos := "law.go:54", after := #[{ on := 1, ground := Ground.data }, { on := 5, ground := Ground.data }], guard := none }) (v := ?_) rfl (by kernel_rfl) (by kernel_rfl) (by kernel_rfl) (fun _ _ _ h => h) (Or.inl ⟨by kernel_rfl, ?_⟩) hHeld ?_
  rotate_left
  · intro w9 hSw; (try dsimp only at hSw); go_simp; try with_reducible rfl
  simp only [Act.put, List.setIfInBounds_toArray, List.set_cons_zero, List.set_cons_succ]
  refine wpAnyH_take (i := 7) (oi := { dst := some 141, op := Op.move (Operand.tmp 140), type := 4, pos := "law.go:54", after := #[{ on := 6, ground := Ground.data }, { on := 5, ground := Ground.chain }], guard := none }) (v := ?_) rfl (by kernel_rfl) (by kernel_rfl) (by kernel_rfl) (fun _ _ _ h => h) (Or.inl ⟨by kernel_rfl, ?_⟩) hHeld ?_
  rotate_left
  · intro w9 hSw; (try dsimp only at hSw); go_simp; try with_reducible rfl
  simp only [Act.put, List.setIfInBounds_toArray, List.set_cons_zero, List.set_cons_succ]
  refine wpAnyH_take (i := 8) (oi := { dst := some 142, op := Op.move (Operand.tmp 25), type := 4, pos := "law.go:54", after := #[{ on := 7, ground := Ground.guard }], guard := some (7, true) }) (v := ?_) rfl (by kernel_rfl) (by kernel_rfl) (by kernel_rfl) (fun _ _ _ h => h) (Or.inl ⟨by kernel_rfl, ?_⟩) hHeld ?_
  rotate_left
  · intro w9 hSw; (try dsimp only at hSw); go_simp; try with_reducible rfl
  simp only [Act.put, List.setIfInBounds_toArray, List.set_cons_zero, List.set_cons_succ]
  refine wpAnyH_take (i := 9) (oi := { dst := some 143, op := Op.move (Operand.tmp 27), type := 4, pos := "law.go:54", after := #[{ on := 7, ground := Ground.guard }], guard := some (7, true) }) (v := ?_) rfl (by kernel_rfl) (by kernel_rfl) (by kernel_rfl) (fun _ _ _ h => h) (Or.inl ⟨by kernel_rfl, ?_⟩) hHeld ?_
  rotate_left
  · intro w9 hSw; (try dsimp only at hSw); go_simp; try with_reducible rfl
  simp only [Act.put, List.setIfInBounds_toArray, List.set_cons_zero, List.set_cons_succ]
  refine wpAnyH_take (i := 10) (oi := { dst := some 144, op := Op.binOp BinOp.eql 4 (Operand.tmp 142) (Operand.tmp 143) 4, type := 4, pos := "law.go:54", after := #[{ on := 8, ground := Ground.data }, { on := 9, ground := Ground.data }, { on := 7, ground := Ground.guard }], guard := some (7, true) }) (v := ?_) rfl (by kernel_rfl) (by kernel_rfl) (by kernel_rfl) (fun _ _ _ h => h) (Or.inl ⟨by kernel_rfl, ?_⟩) hHeld ?_
  rotate_left
  · intro w9 hSw; (try dsimp only at hSw); go_simp; try with_reducible rfl
  simp only [Act.put, List.setIfInBounds_toArray, List.set_cons_zero, List.set_cons_succ]
  refine wpAnyH_take (i := 11) (oi := { dst := some 145, op := Op.pick (Operand.tmp 141) (Operand.tmp 144) (Operand.const (Value.bool false)), type := 4, pos := "law.go:54", after := #[{ on := 7, ground := Ground.data }, { on := 10, ground := Ground.data }], guard := none }) (v := ?_) rfl (by kernel_rfl) (by kernel_rfl) (by kernel_rfl) (fun _ _ _ h => h) (Or.inl ⟨by kernel_rfl, ?_⟩) hHeld ?_
  rotate_left
  · intro w9 hSw; (try dsimp only at hSw); go_simp; try with_reducible rfl
  simp only [Act.put, List.setIfInBounds_toArray, List.set_cons_zero, List.set_cons_succ]
  refine wpAnyH_take (i := 12) (oi := { dst := some 146, op := Op.move (Operand.tmp 145), type := 4, pos := "law.go:54", after := #[{ on := 11, ground := Ground.data }, { on := 7, ground := Ground.chain }], guard := none }) (v := ?_) rfl (by kernel_rfl) (by kernel_rfl) (by kernel_rfl) (fun _ _ _ h => h) (Or.inl ⟨by kernel_rfl, ?_⟩) hHeld ?_
  rotate_left
  · intro w9 hSw; (try dsimp only at hSw); go_simp; try with_reducible rfl
  simp only [Act.put, List.setIfInBounds_toArray, List.set_cons_zero, List.set_cons_succ]
  refine wpAnyH_take (i := 13) (oi := { dst := some 147, op := Op.load 24 (Operand.tmp 3), type := 24, pos := "law.go:54", after := #[{ on := 12, ground := Ground.guard }], guard := some (12, true) }) (v := ?_) rfl (by kernel_rfl) (by kernel_rfl) (by kernel_rfl) (fun _ _ _ h => h) (Or.inl ⟨by kernel_rfl, ?_⟩) hHeld ?_
  rotate_left
  · intro w9 hSw; (try dsimp only at hSw); go_simp; try with_reducible rfl
  simp only [Act.put, List.setIfInBounds_toArray, List.set_cons_zero, List.set_cons_succ]
  refine wpAnyH_take (i := 16) (oi := { dst := some 150, op := Op.load 24 (Operand.tmp 3), type := 24, pos := "law.go:54", after := #[{ on := 12, ground := Ground.guard }], guard := some (12, true) }) (v := ?_) rfl (by kernel_rfl) (by kernel_rfl) (by kernel_rfl) (fun _ _ _ h => h) (Or.inl ⟨by kernel_rfl, ?_⟩) hHeld ?_
  rotate_left
  · intro w9 hSw; (try dsimp only at hSw); go_simp; try with_reducible rfl
  simp only [Act.put, List.setIfInBounds_toArray, List.set_cons_zero, List.set_cons_succ]
  refine wpAnyH_ready (rs := [14]) (by kernel_rfl) (by simp) ?_
  refine AllReadyH.cons (o := { dst := some 148, op := Op.call { callee := Callee.value (Operand.func 10), args := #[Operand.tmp 147], argTypes := #[24] }, type := 28, pos := "law.go:54", after := #[{ on := 13, ground := Ground.data }, { on := 12, ground := Ground.chain }, { on := 12, ground := Ground.guard }], guard := some (12, true) }) rfl (fun K hK => ?_) AllReadyH.nil
  go_simp
  refine (line_is N A n c l _ (by omega) (QQ.out.its.below hHeld.1)).mono ?_; rintro e u3 ⟨A_u3, c_u3, rfl, hi, hb, -⟩; have HL := Lib.hid hi; have HBk := Lib.hid (below_then hHeld.1 hb); clear hi hb
  refine hK.out _ _ (⟨HBk.out, (QQ.out.keep (HBk.out)).cs, (Qi.out.keep (HBk.out)).cs, (Qj.out.keep (HBk.out)).cs⟩) (fun hHeld => ?_)
  clear hK K
  try simp only [Act.put, List.setIfInBounds_toArray, List.set_cons_zero, List.set_cons_succ]
  refine wpAnyH_ready (rs := [15]) (by kernel_rfl) (by simp) ?_
  refine AllReadyH.cons (o := { dst := some 149, op := Op.call { callee := Callee.value (Operand.func 21), args := #[Operand.tmp 148], argTypes := #[28] }, type := 45, pos := "law.go:54", after := #[{ on := 14, ground := Ground.data }, { on := 14, ground := Ground.chain }, { on := 12, ground := Ground.guard }], guard := some (12, true) }) rfl (fun K hK => ?_) AllReadyH.nil
  go_simp
  refine (lids_is N A_u3 n c_u3 l IL _ (by omega) HL.out H13.out).mono ?_; rintro e u4 ⟨A_u4, n_u4, c_u4, rfl, hk, hb⟩; have HK1 := Lib.hid hk; have HBk := Lib.hid (below_then hHeld.1 hb); clear hk hb
  refine hK.out _ _ (⟨HBk.out, (QQ.out.keep (HBk.out)).cs, (Qi.out.keep (HBk.out)).cs, (Qj.out.keep (HBk.out)).cs⟩) (fun hHeld => ?_)
  clear hK K
  try simp only [Act.put, List.setIfInBounds_toArray, List.set_cons_zero, List.set_cons_succ]
  refine wpAnyH_ready (rs := [17]) (by kernel_rfl) (by simp) ?_
  refine AllReadyH.cons (o := { dst := some 151, op := Op.call { callee := Callee.value (Operand.func 22), args := #[Operand.tmp 150], argTypes := #[24] }, type := 45, pos := "law.go:54", after := #[{ on := 16, ground := Ground.data }, { on := 15, ground := Ground.chain }, { on := 12, ground := Ground.guard }], guard := some (12, true) }) rfl (fun K hK => ?_) AllReadyH.nil
  go_simp
  refine (rlids_is N A n c l IL _ (QQ.out.its.below hHeld.1) H13.out).mono ?_; rintro e u5 ⟨A_u5, n_u5, c_u5, rfl, hk, hb⟩; have HK1 := Lib.hid (HK1.out.below hb); have HK2 := Lib.hid hk; have HBk := Lib.hid (below_then hHeld.1 hb); clear hk hb
  refine hK.out _ _ (⟨HBk.out, (QQ.out.keep (HBk.out)).cs, (Qi.out.keep (HBk.out)).cs, (Qj.out.keep (HBk.out)).cs⟩) (fun hHeld => ?_)
  clear hK K
  try simp only [Act.put, List.setIfInBounds_toArray, List.set_cons_zero, List.set_cons_succ]
  refine wpAnyH_ready (rs := [18]) (by kernel_rfl) (by simp) ?_
  refine AllReadyH.cons (o := { dst := some 152, op := Op.call { callee := Callee.value (Operand.func 20), args := #[Operand.tmp 149, Operand.tmp 151], argTypes := #[45, 45] }, type := 4, pos := "law.go:54", after := #[{ on := 15, ground := Ground.data }, { on := 17, ground := Ground.data }, { on := 17, ground := Ground.chain }, { on := 12, ground := Ground.guard }], guard := some (12, true) }) rfl (fun K hK => ?_) AllReadyH.nil
  go_simp
  refine (same4_any A_u4 A_u5 n_u4 c_u4 n_u5 c_u5 IL _ (by have h := HK1.out.len; have h2 := HIL.out; omega) HK1.out HK2.out).mono ?_; rintro e u6 ⟨rfl, hb⟩; have HBk := Lib.hid (below_then hHeld.1 hb); clear hb
  refine hK.out _ _ (⟨HBk.out, (QQ.out.keep (HBk.out)).cs, (Qi.out.keep (HBk.out)).cs, (Qj.out.keep (HBk.out)).cs⟩) (fun hHeld => ?_)
  clear hK K
  try simp only [Act.put, List.setIfInBounds_toArray, List.set_cons_zero, List.set_cons_succ]
  refine wpAnyH_take (i := 19) (oi := { dst := some 153, op := Op.pick (Operand.tmp 146) (Operand.tmp 152) (Operand.const (Value.bool false)), type := 4, pos := "law.go:54", after := #[{ on := 12, ground := Ground.data }, { on := 18, ground := Ground.data }], guard := none }) (v := ?_) rfl (by kernel_rfl) (by kernel_rfl) (by kernel_rfl) (fun _ _ _ h => h) (Or.inl ⟨by kernel_rfl, ?_⟩) hHeld ?_
  rotate_left
  · intro w9 hSw; (try dsimp only at hSw); go_simp; try with_reducible rfl
  simp only [Act.put, List.setIfInBounds_toArray, List.set_cons_zero, List.set_cons_succ]
  refine wpAnyH_take (i := 20) (oi := { dst := some 154, op := Op.move (Operand.tmp 153), type := 4, pos := "law.go:54", after := #[{ on := 19, ground := Ground.data }, { on := 18, ground := Ground.chain }], guard := none }) (v := ?_) rfl (by kernel_rfl) (by kernel_rfl) (by kernel_rfl) (fun _ _ _ h => h) (Or.inl ⟨by kernel_rfl, ?_⟩) hHeld ?_
  rotate_left
  · intro w9 hSw; (try dsimp only at hSw); go_simp; try with_reducible rfl
  simp only [Act.put, List.setIfInBounds_toArray, List.set_cons_zero, List.set_cons_succ]
  refine wpAnyH_take (i := 21) (oi := { dst := some 155, op := Op.load 24 (Operand.tmp 3), type := 24, pos := "law.go:54", after := #[{ on := 20, ground := Ground.guard }], guard := some (20, true) }) (v := ?_) rfl (by kernel_rfl) (by kernel_rfl) (by kernel_rfl) (fun _ _ _ h => h) (Or.inl ⟨by kernel_rfl, ?_⟩) hHeld ?_
  rotate_left
  · intro w9 hSw; (try dsimp only at hSw); go_simp; try with_reducible rfl
  simp only [Act.put, List.setIfInBounds_toArray, List.set_cons_zero, List.set_cons_succ]
  refine wpAnyH_take (i := 24) (oi := { dst := some 158, op := Op.load 24 (Operand.tmp 3), type := 24, pos := "law.go:54", after := #[{ on := 20, ground := Ground.guard }], guard := some (20, true) }) (v := ?_) rfl (by kernel_rfl) (by kernel_rfl) (by kernel_rfl) (fun _ _ _ h => h) (Or.inl ⟨by kernel_rfl, ?_⟩) hHeld ?_
  rotate_left
  · intro w9 hSw; (try dsimp only at hSw); go_simp; try with_reducible rfl
  simp only [Act.put, List.setIfInBounds_toArray, List.set_cons_zero, List.set_cons_succ]
  refine wpAnyH_ready (rs := [22]) (by kernel_rfl) (by simp) ?_
  refine AllReadyH.cons (o := { dst := some 156, op := Op.call { callee := Callee.value (Operand.func 10), args := #[Operand.tmp 155], argTypes := #[24] }, type := 28, pos := "law.go:54", after := #[{ on := 21, ground := Ground.data }, { on := 20, ground := Ground.chain }, { on := 20, ground := Ground.guard }], guard := some (20, true) }) rfl (fun K hK => ?_) AllReadyH.nil
  go_simp
  refine (line_is N A n c l _ (by omega) (QQ.out.its.below hHeld.1)).mono ?_; rintro e u7 ⟨A_u7, c_u7, rfl, hi, hb, -⟩; have HL := Lib.hid hi; have HBk := Lib.hid (below_then hHeld.1 hb); clear hi hb
  refine hK.out _ _ (⟨HBk.out, (QQ.out.keep (HBk.out)).cs, (Qi.out.keep (HBk.out)).cs, (Qj.out.keep (HBk.out)).cs⟩) (fun hHeld => ?_)
  clear hK K
  try simp only [Act.put, List.setIfInBounds_toArray, List.set_cons_zero, List.set_cons_succ]
  refine wpAnyH_ready (rs := [23]) (by kernel_rfl) (by simp) ?_
  refine AllReadyH.cons (o := { dst := some 157, op := Op.call { callee := Callee.value (Operand.func 23), args := #[Operand.tmp 156], argTypes := #[28] }, type := 4, pos := "law.go:54", after := #[{ on := 22, ground := Ground.data }, { on := 22, ground := Ground.chain }, { on := 20, ground := Ground.guard }], guard := some (20, true) }) rfl (fun K hK => ?_) AllReadyH.nil
  go_simp
  refine (sane_is N A_u7 n c_u7 l SB _ (by omega) HL.out H14.out).mono ?_; rintro e u8 ⟨rfl, hb⟩; have HBk := Lib.hid (below_then hHeld.1 hb); clear hb
  refine hK.out _ _ (⟨HBk.out, (QQ.out.keep (HBk.out)).cs, (Qi.out.keep (HBk.out)).cs, (Qj.out.keep (HBk.out)).cs⟩) (fun hHeld => ?_)
  clear hK K
  try simp only [Act.put, List.setIfInBounds_toArray, List.set_cons_zero, List.set_cons_succ]
  refine wpAnyH_ready (rs := [25]) (by kernel_rfl) (by simp) ?_
  refine AllReadyH.cons (o := { dst := some 159, op := Op.call { callee := Callee.value (Operand.func 24), args := #[Operand.tmp 158], argTypes := #[24] }, type := 4, pos := "law.go:54", after := #[{ on := 24, ground := Ground.data }, { on := 23, ground := Ground.chain }, { on := 20, ground := Ground.guard }], guard := some (20, true) }) rfl (fun K hK => ?_) AllReadyH.nil
  go_simp
  refine (rSane_is N A n c l SB _ (QQ.out.its.below hHeld.1) H14.out).mono ?_; rintro e u9 ⟨rfl, hb⟩; have HBk := Lib.hid (below_then hHeld.1 hb); clear hb
  refine hK.out _ _ (⟨HBk.out, (QQ.out.keep (HBk.out)).cs, (Qi.out.keep (HBk.out)).cs, (Qj.out.keep (HBk.out)).cs⟩) (fun hHeld => ?_)
  clear hK K
  try simp only [Act.put, List.setIfInBounds_toArray, List.set_cons_zero, List.set_cons_succ]
  refine wpAnyH_take (i := 26) (oi := { dst := some 160, op := Op.binOp BinOp.eql 4 (Operand.tmp 157) (Operand.tmp 159) 4, type := 4, pos := "law.go:54", after := #[{ on := 23, ground := Ground.data }, { on := 25, ground := Ground.data }, { on := 20, ground := Ground.guard }], guard := some (20, true) }) (v := ?_) rfl (by kernel_rfl) (by kernel_rfl) (by kernel_rfl) (fun _ _ _ h => h) (Or.inl ⟨by kernel_rfl, ?_⟩) hHeld ?_
  rotate_left
  · intro w9 hSw; (try dsimp only at hSw); go_simp; try with_reducible rfl
  simp only [Act.put, List.setIfInBounds_toArray, List.set_cons_zero, List.set_cons_succ]
  refine wpAnyH_take (i := 27) (oi := { dst := some 161, op := Op.pick (Operand.tmp 154) (Operand.tmp 160) (Operand.const (Value.bool false)), type := 4, pos := "law.go:54", after := #[{ on := 20, ground := Ground.data }, { on := 26, ground := Ground.data }], guard := none }) (v := ?_) rfl (by kernel_rfl) (by kernel_rfl) (by kernel_rfl) (fun _ _ _ h => h) (Or.inl ⟨by kernel_rfl, ?_⟩) hHeld ?_
  rotate_left
  · intro w9 hSw; (try dsimp only at hSw); go_simp; try with_reducible rfl
  simp only [Act.put, List.setIfInBounds_toArray, List.set_cons_zero, List.set_cons_succ]
  refine wpAnyH_take (i := 28) (oi := { dst := some 6, op := Op.assign (Operand.tmp 161), type := 4, pos := "law.go:54", after := #[{ on := 27, ground := Ground.data }, { on := 25, ground := Ground.chain }, { on := 0, ground := Ground.phase }, { on := 1, ground := Ground.phase }, { on := 2, ground := Ground.phase }, { on := 3, ground := Ground.phase }, { on := 4, ground := Ground.phase }, { on := 5, ground := Ground.phase }, { on := 6, ground := Ground.phase }, { on := 7, ground := Ground.phase }, { on := 8, ground := Ground.phase }, { on := 9, ground := Ground.phase }, { on := 10, ground := Ground.phase }, { on := 11, ground := Ground.phase }, { on := 12, ground := Ground.phase }, { on := 13, ground := Ground.phase }, { on := 14, ground := Ground.phase }, { on := 15, ground := Ground.phase }, { on := 16, ground := Ground.phase }, { on := 17, ground := Ground.phase }, { on := 18, ground := Ground.phase }, { on := 19, ground := Ground.phase }, { on := 20, ground := Ground.phase }, { on := 21, ground := Ground.phase }, { on := 22, ground := Ground.phase }, { on := 23, ground := Ground.phase }, { on := 24, ground := Ground.phase }, { on := 25, ground := Ground.phase }, { on := 26, ground := Ground.phase }, { on := 27, ground := Ground.phase }], guard := none }) (v := ?_) rfl (by kernel_rfl) (by kernel_rfl) (by kernel_rfl) (fun _ _ _ h => h) (Or.inl ⟨by kernel_rfl, ?_⟩) hHeld ?_
  rotate_left
  · intro w9 hSw; (try dsimp only at hSw); go_simp; try with_reducible rfl
  simp only [Act.put, List.setIfInBounds_toArray, List.set_cons_zero, List.set_cons_succ]
  refine wpAnyH_done (by kernel_rfl) ?_ _
  go_wp2
  go_ret
  exact ⟨rfl, below_then HB.out hHeld.1⟩

end Go.Proofs.Ytoklocbdifefcaa

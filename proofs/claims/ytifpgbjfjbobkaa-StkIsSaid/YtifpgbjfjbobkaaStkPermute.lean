/-
  What the calls of package stk answer that name cells: named, Permute, of any stack.
-/
import Derived.Test.YtifpgbjfjbobkaaStkCalls
namespace Go.Proofs.Ytifpgbjfjbobkaa
open Go.RowKit

/-- A row of ints that the call has made, with room for all that is laid in it. -/
def Lay (w : World) (n : Nat) (f : Nat → Int) (wr : World) : Prop := wr.rowIs w.heap.size 3 n (fun j => .int .i64 (f j)) ∧ Below w.heap.size w wr
theorem lay_new (w : World) (n : Nat) : Lay w n (fun _ => 0) (w.alloc (.cells (madeCells #[Value.int .i64 0] n) 3)) :=
  ⟨World.rowIs_made w (.int .i64 0) n 3, (Below.refl _ _).alloc (Nat.le_refl _) _⟩
theorem Lay.congr {w wr : World} {n : Nat} {f g : Nat → Int} (h : Lay w n f wr) (e : ∀ j, j < n → f j = g j) : Lay w n g wr :=
  ⟨h.1.congr fun j hj => by rw [e j hj], h.2⟩
theorem Lay.set {w wr : World} {n : Nat} {f : Nat → Int} (h : Lay w n f wr) (k : Nat) (v : Int) : Lay w n (fun j => if j = k then v else f j) (wr.setCell ⟨w.heap.size, k, none⟩ (.int .i64 v)) :=
  ⟨(h.1.set k (.int .i64 v)).congr fun j _ => by by_cases hj : j = k <;> simp [hj], h.2.setCell (Nat.le_refl _) _⟩
theorem Lay.stk {w wr : World} {n : Nat} {f : Nat → Int} {l : List Int} (h : Lay w n f wr) (hl : l.length = n) (e : ∀ j (hj : j < l.length), f j = l[j]) : Stk wr (some ⟨w.heap.size, 0, none⟩) n n l :=
  ⟨hl, Nat.le_refl _, fun _ => ⟨_, 0, rfl, h.1.lt, fun j hj => by rw [Nat.zero_add, h.1.cell (by omega), e j hj]⟩, fun h => by cases h⟩
/-- The cells that are named, or none; and the throw. -/
def nameR (L : Nat) (x to : List Int) : List Int := if nameB L to = true then [] else nameL x to
def nameE (L : Nat) (to : List Int) : Int := if nameB L to = true then -4 else 0
theorem nameR_ok {L : Nat} {x to : List Int} (h : nameB L to = false) : nameR L x to = nameL x to := by simp [nameR, h]
theorem nameE_ok {L : Nat} {to : List Int} (h : nameB L to = false) : nameE L to = 0 := by simp [nameE, h]
theorem nameR_bad {L : Nat} {x to : List Int} (h : nameB L to = true) : nameR L x to = [] := by simp [nameR, h]
theorem nameE_bad {L : Nat} {to : List Int} (h : nameB L to = true) : nameE L to = -4 := by simp [nameE, h]
/-- What is laid so far of the cells that are named. -/
def pN (x to : List Int) (k j : Nat) : Int := if j < k then (nameL x to).getD j 0 else 0

set_option maxHeartbeats 1000000 in
theorem named_any (A : Option Addr) (n c : Nat) (x : List Int) (B : Option Addr) (m d : Nat) (to : List Int) (w : World) (hm : m ≤ 10000) (h1 : Stk w A n c x) (h2 : Stk w B m d to) :
    Calls Try.prog 24 #[.slice A n c, .slice B m d] w (StkPost w (nameR n x to) (nameE n to)) := by
  have hmk := fun W => run_make_row' (P := Try.prog) 22 3 (.int .i64 0) 8 Try.underlying22 infoI rfl .i64 .i64 m (by omega) (by omega) W
  have HL := Lib.hid h1.len
  have HM := Lib.hid h2.len
  have H1 := Lib.hid h1
  have H2 := Lib.hid h2
  clear h1 h2
  go_enter Try.func24, Try.ntmps24
  go_wp2
  go_loopw [14] (fun i wr => ∃ k : Nat, k ≤ m ∧ i = .int .i64 k ∧ Lay w m (pN x to k) wr ∧ (∀ j (hj : j < to.length), j < k → pickB n to[j] = false)) (fun i _ => ((m : Int) - intOf i).toNat)
  case atStart => exact ⟨0, by omega, rfl, (lay_new w m).congr (fun j _ => by unfold pN; rw [if_neg (by omega)]), fun j _ h => by omega⟩
  case round =>
    obtain ⟨k, hk, rfl, hF, hP⟩ := hrel
    have HF := Lib.hid hF
    have HP := Lib.hid hP
    clear hF hP
    by_cases h8 : k < m
    · have hkt : k < to.length := by rw [HM.out]; exact h8
      obtain ⟨b2, o2, rfl, hb2, hc2⟩ := (H2.out.below HF.out.2).at_ k h8
      have HG : Hid (to.getD k 0 = to[k]) := show _ = _ by simp [List.getD, hkt]
      cases hp : pickB n (to.getD k 0)
      · obtain ⟨i, hi, hlt⟩ := pickB_no hp
        obtain ⟨b1, o1, rfl, hb1, hc1⟩ := (H1.out.below HF.out.2).at_ i hlt
        have hbf : (!pickB n (i : Int)) = true := by rw [← hi, hp]; rfl
        have hf := HF.out.1.frozen k
        have hc := HF.out.1.cell h8
        have HR := Lib.hid ((HF.out.set k (x.getD i 0)).congr (g := pN x to (k + 1)) (fun j _ => by
          unfold pN
          by_cases hj : j = k
          · subst hj
            rw [if_pos rfl, if_pos (by omega)]
            unfold nameL
            rw [List.getD_eq_getElem?_getD, List.getD_eq_getElem?_getD, List.getElem?_map, List.getElem?_eq_getElem hkt]
            have e : to[j] = (i : Int) := by rw [← HG.out]; exact hi
            simp [e, List.getD]
          · rw [if_neg hj]; by_cases h2 : j < k
            · rw [if_pos h2, if_pos (by omega)]
            · rw [if_neg h2, if_neg (by omega)]))
        have HQ : Hid (∀ j (hj : j < to.length), j < k + 1 → pickB n to[j] = false) := by
          intro j hj hlt
          rcases Nat.lt_or_ge j k with h | h
          · exact HP.out j hj h
          · obtain rfl : j = k := by omega
            rw [← HG.out]; exact hp
        rw [hi] at hc2
        clear hp hi
        go_wp2_with (go_at_call 23; refine (there_any _ _ _ _ _).mono ?_; rintro e w' ⟨rfl, rfl⟩)
        go_roundw
        case rel => exact ⟨k + 1, by omega, by go_num, HR.out, HQ.out⟩
        case measure => simp [intOf]; omega
      · have hbf : (!pickB n (to.getD k 0)) = false := by rw [hp]; rfl
        have HN : Hid (nameB n to = true) := nameB_some hkt (by rw [← HG.out]; exact hp)
        generalize to.getD k 0 = V at *
        clear hp
        go_wp2_with (go_at_call 23; refine (there_any _ _ _ _ _).mono ?_; rintro e w' ⟨rfl, rfl⟩)
        go_ret2
        rw [nameR_bad HN.out, nameE_bad HN.out]
        exact ⟨none, 0, 0, rfl, Stk.nil, HF.out.2⟩
    · obtain rfl : k = m := by omega
      have HN : Hid (nameB n to = false) := nameB_of fun j hj => HP.out j hj (by rw [← HM.out]; exact hj)
      go_wp2
      go_ret2
      rw [nameR_ok HN.out, nameE_ok HN.out]
      refine ⟨_, _, _, rfl, HF.out.stk (by rw [nameL_length]; exact HM.out) (fun j hj => ?_), HF.out.2⟩
      unfold pN
      rw [if_pos (by rw [nameL_length, HM.out] at hj; exact hj)]
      simp [List.getD, hj]

theorem popL_length {l : List Int} {q : Int} : (popL l q).length ≤ l.length := by
  unfold popL
  split
  · exact Nat.le_refl _
  · rw [List.length_take]; omega
set_option maxHeartbeats 1000000 in
theorem permute_any (A : Option Addr) (n c : Nat) (l : List Int) (q : Int) (B : Option Addr) (m d : Nat) (to : List Int) (most : Int) (w : World) (hn : n ≤ 10000) (hm : m ≤ 10000) (h1 : Stk w A n c l) (h2 : Stk w B m d to) :
    Calls Try.prog 19 #[.slice A n c, .int .i64 q, .slice B m d, .int .i64 most] w (StkPost w (permL l q to most) (permE l q to most)) := by
  have HL := Lib.hid h1.len
  have HM := Lib.hid h2.len
  have H1 := Lib.hid h1
  have H2 := Lib.hid h2
  have P1 := pop_any A n c l q w hn h1
  clear h1 h2
  cases hp : popB l.length q
  · have HP := Lib.hid hp
    rw [popE_ok hp] at P1
    have HP1 := Lib.hid P1
    clear hp P1
    cases hb : nameB (popX l q).length to
    · have HB := Lib.hid hb
      clear hb
      cases hq : pushB ((popL l q).length + to.length) most
      · have HQ := Lib.hid hq
        clear hq
        go_enter Try.func19, Try.ntmps19
        go_wp2_with (first
          | (go_at_call 12; refine HP1.out.mono ?_; rintro e w1 ⟨A1, n1, c1, A2, n2, c2, rfl, s1, s2, b1⟩; have S1 := Lib.hid s1; have S2 := Lib.hid s2; have B1 := Lib.hid b1; have HT := Lib.hid (H2.out.below b1); clear s1 s2 b1)
          | (go_at_call 24; have P2 := named_any A2 n2 c2 _ B m d to w1 hm S2.out HT.out; rw [nameR_ok (by rw [← S2.out.len]; exact HB.out), nameE_ok (by rw [← S2.out.len]; exact HB.out)] at P2; refine P2.mono ?_; clear P2; rintro e w2 ⟨A3, n3, c3, rfl, s3, b2⟩; have S3 := Lib.hid s3; have B2 := Lib.hid b2; have S4 := Lib.hid (S1.out.below b2); clear s3 b2)
          | (go_at_call 10; have P3 := push_any A1 n1 c1 _ most A3 n3 c3 _ w2 (by rw [← S4.out.len]; exact Nat.le_trans popL_length (by rw [HL.out]; exact hn)) (by rw [← S3.out.len, nameL_length, HM.out]; exact hm) S4.out S3.out; rw [pushE_ok (by rw [nameL_length]; exact HQ.out), pushL_ok (by rw [nameL_length]; exact HQ.out)] at P3; refine P3.mono ?_; clear P3; rintro e w3 ⟨A5, n5, c5, rfl, s5, b3⟩; have S5 := Lib.hid s5; have B3 := Lib.hid b3; clear s5 b3))
        go_ret2
        have e0 : permE l q to most = 0 := by rw [permE_push HP.out HB.out, pushE_ok HQ.out]
        rw [permL_ok e0, e0]
        exact ⟨A5, n5, c5, rfl, S5.out, below_then (below_then B1.out B2.out) B3.out⟩
      · have HQ := Lib.hid hq
        clear hq
        go_enter Try.func19, Try.ntmps19
        go_wp2_with (first
          | (go_at_call 12; refine HP1.out.mono ?_; rintro e w1 ⟨A1, n1, c1, A2, n2, c2, rfl, s1, s2, b1⟩; have S1 := Lib.hid s1; have S2 := Lib.hid s2; have B1 := Lib.hid b1; have HT := Lib.hid (H2.out.below b1); clear s1 s2 b1)
          | (go_at_call 24; have P2 := named_any A2 n2 c2 _ B m d to w1 hm S2.out HT.out; rw [nameR_ok (by rw [← S2.out.len]; exact HB.out), nameE_ok (by rw [← S2.out.len]; exact HB.out)] at P2; refine P2.mono ?_; clear P2; rintro e w2 ⟨A3, n3, c3, rfl, s3, b2⟩; have S3 := Lib.hid s3; have B2 := Lib.hid b2; have S4 := Lib.hid (S1.out.below b2); clear s3 b2)
          | (go_at_call 10; have P3 := push_any A1 n1 c1 _ most A3 n3 c3 _ w2 (by rw [← S4.out.len]; exact Nat.le_trans popL_length (by rw [HL.out]; exact hn)) (by rw [← S3.out.len, nameL_length, HM.out]; exact hm) S4.out S3.out; rw [pushE_over (by rw [nameL_length]; exact HQ.out)] at P3; refine P3.mono ?_; clear P3; rintro e w3 ⟨A5, n5, c5, rfl, s5, b3⟩; have S5 := Lib.hid s5; have B3 := Lib.hid b3; clear s5 b3))
        go_ret2
        have e0 : permE l q to most = -3 := by rw [permE_push HP.out HB.out, pushE_over HQ.out]
        rw [permL_bad (by rw [e0]; decide), e0]
        have hB := below_then (below_then B1.out B2.out) B3.out
        exact ⟨A, n, c, rfl, H1.out.below hB, hB⟩
    · have HB := Lib.hid hb
      clear hb
      go_enter Try.func19, Try.ntmps19
      go_wp2_with (first
        | (go_at_call 12; refine HP1.out.mono ?_; rintro e w1 ⟨A1, n1, c1, A2, n2, c2, rfl, s1, s2, b1⟩; have S1 := Lib.hid s1; have S2 := Lib.hid s2; have B1 := Lib.hid b1; have HT := Lib.hid (H2.out.below b1); clear s1 s2 b1)
        | (go_at_call 24; have P2 := named_any A2 n2 c2 _ B m d to w1 hm S2.out HT.out; rw [nameR_bad (by rw [← S2.out.len]; exact HB.out), nameE_bad (by rw [← S2.out.len]; exact HB.out)] at P2; refine P2.mono ?_; clear P2; rintro e w2 ⟨A3, n3, c3, rfl, s3, b2⟩; have S3 := Lib.hid s3; have B2 := Lib.hid b2; have S4 := Lib.hid (S1.out.below b2); clear s3 b2))
      go_ret2
      have e0 : permE l q to most = -4 := permE_name HP.out HB.out
      rw [permL_bad (by rw [e0]; decide), e0]
      have hB := below_then B1.out B2.out
      exact ⟨A, n, c, rfl, H1.out.below hB, hB⟩
  · have HP := Lib.hid hp
    rw [popE_under hp] at P1
    have HP1 := Lib.hid P1
    clear hp P1
    go_enter Try.func19, Try.ntmps19
    go_wp2_with (go_at_call 12; refine HP1.out.mono ?_; rintro e w1 ⟨A1, n1, c1, A2, n2, c2, rfl, s1, s2, b1⟩; have B1 := Lib.hid b1; clear s1 s2 b1)
    go_ret2
    have e0 : permE l q to most = -4 := permE_pop HP.out
    rw [permL_bad (by rw [e0]; decide), e0]
    exact ⟨A, n, c, rfl, H1.out.below B1.out, B1.out⟩
end Go.Proofs.Ytifpgbjfjbobkaa

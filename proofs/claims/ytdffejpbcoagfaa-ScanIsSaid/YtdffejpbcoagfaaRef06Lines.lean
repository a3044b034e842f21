/-
  What the document's own Lines and Texts answer (tenterhookref06): the lines of the text, in a new slice; and that two slices hold the same texts, where they do.
-/
import Derived.Test.YtdffejpbcoagfaaScanEach
import Derived.Test.YtdffejpbcoagfaaScanRows
import Derived.Deep.QuietTactic
import Derived.BigQuiet
namespace Go.Proofs.Ytdffejpbcoagfaa
open Go.RowKit

theorem scT_more (l : List UInt8) (f q : Nat) (hf : f ≤ q) (hq : q < l.length) : scT l f (q + 1) = scT l f q ++ [l[q]] := by
  unfold scT
  rw [show q + 1 - f = (q - f) + 1 by omega, List.take_succ_eq_append_getElem (by simp; omega)]
  congr 2
  simp
  congr 1
  omega
theorem scT_self (l : List UInt8) (f : Nat) : scT l f f = [] := by unfold scT; simp
theorem textsOf_snoc (A : List (List UInt8)) (x : List UInt8) : textsOf (A ++ [x]) = textsOf A ++ [.string ⟨x.toArray⟩] := by simp [textsOf]
theorem textsOf_length (A : List (List UInt8)) : (textsOf A).length = A.length := by simp [textsOf]
set_option maxRecDepth 100000 in
set_option maxHeartbeats 2000000 in
theorem rlines_any (l : List UInt8) (hl : l.length ≤ 2000) (S : ByteArray) (hS : S = ⟨l.toArray⟩) (w : World) :
    Calls Try.prog 23 #[.string S] w (LinesPost w (scL l)) := by
  obtain ⟨i0, hi, hz0, hz1, hz2⟩ := info_parts infoS
  have HI := Lib.hid hi
  have HZ0 := Lib.hid (And.intro hz0 (And.intro hz1 hz2))
  have hz : S.size = l.length := by rw [hS, size_mk]
  have hsz : S.size ≤ 2000 := by omega
  have HS := Lib.hid hS
  have HZ := Lib.hid hz
  clear hi hz0 hz1 hz2 hS hz
  go_enter Try.func23, Try.ntmps23
  go_wp2
  go_loopw [3, 4, 5] (fun v f i ws => ∃ (q k : Nat) (A : List (List UInt8)), i = .int .i64 q ∧ f = .int .i64 k ∧ k ≤ q ∧ q ≤ S.size ∧ scL (l.take q) = A ++ [scT l k q] ∧ RowSt w 9 (textsOf A) v ws) (fun _ _ i _ => S.size - (intOf i).toNat)
  case atStart => exact ⟨0, 0, [], rfl, rfl, Nat.le_refl _, Nat.zero_le _, by simp [scL, scT], RowSt.nil w _⟩
  case round =>
    obtain ⟨q, k, A, rfl, rfl, hkq, hq, hsc, hst⟩ := hrel
    have HST := Lib.hid hst
    have hws := hst.2.size
    have hAl : (textsOf A).length ≤ 2001 := by
      have h1 := scL_length (l.take q)
      rw [hsc] at h1
      have h2 : (l.take q).length ≤ l.length := List.length_take_le' q l
      rw [textsOf_length]
      simp at h1
      omega
    have HSC := Lib.hid hsc
    clear hst hsc
    have hkq2 : (k : Int) ≤ (q : Int) := by omega
    by_cases hp : q < S.size
    · have hql : q < l.length := by rw [← HZ.out]; exact hp
      obtain ⟨d, hd⟩ : ∃ d, l[q] = d := ⟨_, rfl⟩
      have hSq : S[q]'hp = d := by rw [← hd]; have := HS.out; subst this; rfl
      have htk : l.take (q + 1) = l.take q ++ [d] := by rw [List.take_succ_eq_append_getElem hql, hd]
      have hsn := scL_snoc (l.take q) d A _ HSC.out
      rw [← htk] at hsn
      by_cases h10 : d = 10
      · subst h10
        rw [if_pos rfl] at hsn
        obtain ⟨X, hX⟩ : ∃ X : ByteArray, X = ⟨(scT l k q).toArray⟩ := ⟨_, rfl⟩
        have hex : S.extract k q = X := ext_of HS.out k q hX
        have HN : Hid (scL (l.take (q + 1)) = (A ++ [scT l k q]) ++ [scT l (q + 1) (q + 1)]) := Lib.hid (by rw [hsn, scT_self])
        have HX : Hid (textsOf (A ++ [scT l k q]) = textsOf A ++ [.string X]) := Lib.hid (by rw [textsOf_snoc, hX])
        have h10' : ((10 : UInt8).toNat : Int) = 10 := rfl
        clear hsn htk hd hX
        go_wp2_with (at_builtin; refine wpList_append_own _ rfl _ _ 39 rfl _ 9 i0 (.string ⟨#[]⟩) 1 16 Try.underlying39 HI.out HZ0.out.1 HZ0.out.2.1 HZ0.out.2.2 rfl (by decide) _ _ _ rfl (HST.out.1.alloc _) ⟨wr.heap.size, 0, none⟩ 1 1 [.string X] rfl rfl (one_cell _ _ _) (by simp [Value.oneCell']) (by unfold maxLen; omega) (by omega) (by simp; omega) ?_; intro v' w5 hown' hgrow _; have HR := Lib.hid (HST.out.next hown' hgrow); clear hown' hgrow)
        go_roundw
        case rel => exact ⟨q + 1, q + 1, A ++ [scT l k q], by go_num, by go_num, Nat.le_refl _, by omega, HN.out, by rw [HX.out]; exact HR.out⟩
        case measure => simp [intOf]; omega
      · rw [if_neg h10] at hsn
        have hd10 : ((d.toNat : Int) == 10) = false := by
          simp
          intro h'
          exact h10 (UInt8.toNat_inj.1 (by show d.toNat = 10; omega))
        have HN : Hid (scL (l.take (q + 1)) = A ++ [scT l k (q + 1)]) := Lib.hid (by rw [hsn, scT_more l k q hkq hql, hd])
        clear hsn htk hd h10
        go_wp2
        go_roundw
        case rel => exact ⟨q + 1, k, A, by go_num, rfl, by omega, by omega, HN.out, HST.out⟩
        case measure => simp [intOf]; omega
    · obtain rfl : q = S.size := by omega
      obtain ⟨X, hX⟩ : ∃ X : ByteArray, X = ⟨(scT l k S.size).toArray⟩ := ⟨_, rfl⟩
      have hex : S.extract k S.size = X := ext_of HS.out k _ hX
      have HN : Hid (textsOf (scL l) = textsOf A ++ [.string X]) := Lib.hid (by
        have h := HSC.out
        rw [List.take_of_length_le (by have := HZ.out; omega)] at h
        rw [h, textsOf_snoc, hX])
      clear hX
      go_wp2_with (at_builtin; refine wpList_append_own _ rfl _ _ 39 rfl _ 9 i0 (.string ⟨#[]⟩) 1 16 Try.underlying39 HI.out HZ0.out.1 HZ0.out.2.1 HZ0.out.2.2 rfl (by decide) _ _ _ rfl (HST.out.1.alloc _) ⟨wr.heap.size, 0, none⟩ 1 1 [.string X] rfl rfl (one_cell _ _ _) (by simp [Value.oneCell']) (by unfold maxLen; omega) (by omega) (by simp; omega) ?_; intro v' w5 hown' hgrow _; have HR := Lib.hid (HST.out.next hown' hgrow); clear hown' hgrow)
      go_ret
      have R := HR.out
      rw [← HN.out] at R
      have hown := R.1
      rw [textsOf_length] at hown
      obtain ⟨A', c, rfl, ht⟩ := Txts.of_own hown
      exact ⟨A', c, rfl, ht, R.2⟩
set_option maxHeartbeats 1000000 in
theorem rtexts_is (A B : Option Addr) (c d N : Nat) (L : List (List UInt8)) (w : World) (h1 : Txts w A N L) (h2 : Txts w B N L) (hN : N ≤ 3000) :
    Calls Try.prog 21 #[.slice A N c, .slice B N d] w fun e w' => e = .returned (.bool true) ∧ Below w.heap.size w w' := by
  have H1 := Lib.hid h1
  have H2 := Lib.hid h2
  have HL := Lib.hid h1.1
  clear h1 h2
  go_enter Try.func21, Try.ntmps21
  go_wp2
  go_loopw [5] (fun i ws => ∃ q : Nat, i = .int .i64 q ∧ q ≤ N ∧ Below w.heap.size w ws) (fun i _ => N - (intOf i).toNat)
  case atStart => exact ⟨0, rfl, Nat.zero_le _, Below.refl _ _⟩
  case round =>
    obtain ⟨q, rfl, hq, hb⟩ := hrel
    have HB := Lib.hid hb
    by_cases hp : q < N
    · obtain ⟨a, o, rfl, ha, hc⟩ := (H1.out.keep hb).2 (by omega)
      obtain ⟨a', o', rfl, ha', hc'⟩ := (H2.out.keep hb).2 (by omega)
      have e1 := hc q (by rw [HL.out]; exact hp)
      have e2 := hc' q (by rw [HL.out]; exact hp)
      clear hc hc' hb
      generalize (⟨(L[q]'(by rw [HL.out]; exact hp)).toArray⟩ : ByteArray) = X at e1 e2
      go_wp2
      go_quiet (fail)
      go_wp2
      go_roundw
      case rel => exact ⟨q + 1, by go_num, by omega, ⟨HB.out.os, HB.out.tape, HB.out.output, HB.out.size, HB.out.block⟩⟩
      case measure => simp [intOf]; omega
    · go_wp2
      go_ret
      exact ⟨rfl, HB.out⟩
end Go.Proofs.Ytdffejpbcoagfaa

/-
  Plain facts for PureBack: what is turned is turned back.
-/
import Derived.Test.YtnlkggfgloblcaaGreatPureLaws
namespace Go.Proofs.YtnlkggfgloblcaaGreat
open Go.RowKit

theorem neg_neg {e : Int} (h : InC e) : wrap64 (-(wrap64 (-e))) = e := by unfold InC at h; unfold wrap64; omega
theorem not_not' (e : Int) : -(-e - 1) - 1 = e := by omega
theorem dV_mod (x : Int) : dV (dLo x) (dHi x) % 340282366920938463463374607431768211456 = x % 340282366920938463463374607431768211456 := by unfold dV dLo dHi wrap64; omega
theorem dneg_mod (x : Int) : (-dV (dLo (-x)) (dHi (-x))) % 340282366920938463463374607431768211456 = x % 340282366920938463463374607431768211456 := by have := dV_mod (-x); omega
theorem dneg_lo {c e : Int} (hc : InC c) : dLo (-dV (dLo (-dV c e)) (dHi (-dV c e))) = c := (dLo_congr (dneg_mod _)).trans (dLo_dV hc)
theorem dneg_hi {c e : Int} (he : InC e) : dHi (-dV (dLo (-dV c e)) (dHi (-dV c e))) = e := (dHi_congr (dneg_mod _)).trans (dHi_dV he)
theorem dec_is (e k j : Int) (h : j = k - 1) : wrap64 (wrap64 (e + k) - 1) = wrap64 (e + j) := by subst h; unfold wrap64; omega
theorem dec_last {e : Int} (h : InC e) : wrap64 (wrap64 (e + 1) - 1) = e := by unfold InC at h; unfold wrap64; omega
theorem back_one (l : List Int) (a b c e : Int) (hl : l.length ≤ 60) (hc : InC c) (he : InC e) : AlOk [20, 20, 22, 22, 22, 45, 45, 52, 52, 70, 70, 27, 27] (l ++ [a, b, c, e]) (l ++ [a, b, c, e]) := by
  refine al_cons 20 (l ++ [a, b]) [c, e] [e, c] (d' := l ++ [a, b, e, c]) (by decide) (by decide) (by decide) (by simp) rfl (by simp; omega) rfl rfl (by simp; omega) (by simp) ?_
  refine al_cons 20 (l ++ [a, b]) [e, c] [c, e] (d' := l ++ [a, b, c, e]) (by decide) (by decide) (by decide) (by simp) rfl (by simp; omega) rfl rfl (by simp; omega) (by simp) ?_
  refine al_cons 22 (l ++ [a]) [b, c, e] [c, e, b] (d' := l ++ [a, c, e, b]) (by decide) (by decide) (by decide) (by simp) rfl (by simp; omega) rfl rfl (by simp; omega) (by simp) ?_
  refine al_cons 22 (l ++ [a]) [c, e, b] [e, b, c] (d' := l ++ [a, e, b, c]) (by decide) (by decide) (by decide) (by simp) rfl (by simp; omega) rfl rfl (by simp; omega) (by simp) ?_
  refine al_cons 22 (l ++ [a]) [e, b, c] [b, c, e] (d' := l ++ [a, b, c, e]) (by decide) (by decide) (by decide) (by simp) rfl (by simp; omega) rfl rfl (by simp; omega) (by simp) ?_
  refine al_cons 45 (l ++ [a, b, c]) [e] [wrap64 (-e)] (d' := l ++ [a, b, c, wrap64 (-e)]) (by decide) (by decide) (by decide) (by simp) rfl (by simp; omega) rfl rfl (by simp; omega) (by simp) ?_
  refine al_cons 45 (l ++ [a, b, c]) [wrap64 (-e)] [e] (d' := l ++ [a, b, c, e]) (by decide) (by decide) (by decide) (by simp) rfl (by simp; omega) rfl (congrArg (fun x => [x]) (neg_neg he)) (by simp; omega) (by simp) ?_
  refine al_cons 52 (l ++ [a, b, c]) [e] [-e - 1] (d' := l ++ [a, b, c, -e - 1]) (by decide) (by decide) (by decide) (by simp) rfl (by simp; omega) rfl rfl (by simp; omega) (by simp) ?_
  refine al_cons 52 (l ++ [a, b, c]) [-e - 1] [e] (d' := l ++ [a, b, c, e]) (by decide) (by decide) (by decide) (by simp) rfl (by simp; omega) rfl (congrArg (fun x => [x]) (not_not' e)) (by simp; omega) (by simp) ?_
  refine al_cons 70 (l ++ [a, b]) [c, e] [dLo (-dV c e), dHi (-dV c e)] (d' := l ++ [a, b, dLo (-dV c e), dHi (-dV c e)]) (by decide) (by decide) (by decide) (by simp) rfl (by simp; omega) rfl rfl (by simp; omega) (by simp) ?_
  refine al_cons 70 (l ++ [a, b]) [dLo (-dV c e), dHi (-dV c e)] [c, e] (d' := l ++ [a, b, c, e]) (by decide) (by decide) (by decide) (by simp) rfl (by simp; omega) rfl (by show [dLo (-dV (dLo (-dV c e)) (dHi (-dV c e))), dHi (-dV (dLo (-dV c e)) (dHi (-dV c e)))] = _; rw [dneg_lo hc, dneg_hi he]) (by simp; omega) (by simp) ?_
  refine al_cons 27 l [a, b, c, e] [c, e, a, b] (d' := l ++ [c, e, a, b]) (by decide) (by decide) (by decide) rfl rfl (by simp; omega) rfl rfl (by simp; omega) rfl ?_
  refine al_cons 27 l [c, e, a, b] [a, b, c, e] (d' := l ++ [a, b, c, e]) (by decide) (by decide) (by decide) rfl rfl (by simp; omega) rfl rfl (by simp; omega) rfl ?_
  exact al_nil _
theorem back_two (l : List Int) (e : Int) (hl : l.length ≤ 63) (he : InC e) : AlOk [41, 42, 72, 42, 42, 42, 42, 42, 42, 42, 42] (l ++ [e]) (l ++ [e]) := by
  refine al_cons 41 l [e] [wrap64 (e + 1)] (by decide) (by decide) (by decide) rfl rfl (by simp; omega) rfl rfl (by simp; omega) rfl ?_
  refine al_cons 42 l [wrap64 (e + 1)] [e] (by decide) (by decide) (by decide) rfl rfl (by simp; omega) rfl (congrArg (fun x => [x]) (dec_last he)) (by simp; omega) rfl ?_
  refine al_cons 72 l [e] [wrap64 (e + 8)] (by decide) (by decide) (by decide) rfl rfl (by simp; omega) rfl rfl (by simp; omega) rfl ?_
  refine al_cons 42 l [wrap64 (e + 8)] [wrap64 (e + 7)] (by decide) (by decide) (by decide) rfl rfl (by simp; omega) rfl (congrArg (fun x => [x]) (dec_is e 8 7 rfl)) (by simp; omega) rfl ?_
  refine al_cons 42 l [wrap64 (e + 7)] [wrap64 (e + 6)] (by decide) (by decide) (by decide) rfl rfl (by simp; omega) rfl (congrArg (fun x => [x]) (dec_is e 7 6 rfl)) (by simp; omega) rfl ?_
  refine al_cons 42 l [wrap64 (e + 6)] [wrap64 (e + 5)] (by decide) (by decide) (by decide) rfl rfl (by simp; omega) rfl (congrArg (fun x => [x]) (dec_is e 6 5 rfl)) (by simp; omega) rfl ?_
  refine al_cons 42 l [wrap64 (e + 5)] [wrap64 (e + 4)] (by decide) (by decide) (by decide) rfl rfl (by simp; omega) rfl (congrArg (fun x => [x]) (dec_is e 5 4 rfl)) (by simp; omega) rfl ?_
  refine al_cons 42 l [wrap64 (e + 4)] [wrap64 (e + 3)] (by decide) (by decide) (by decide) rfl rfl (by simp; omega) rfl (congrArg (fun x => [x]) (dec_is e 4 3 rfl)) (by simp; omega) rfl ?_
  refine al_cons 42 l [wrap64 (e + 3)] [wrap64 (e + 2)] (by decide) (by decide) (by decide) rfl rfl (by simp; omega) rfl (congrArg (fun x => [x]) (dec_is e 3 2 rfl)) (by simp; omega) rfl ?_
  refine al_cons 42 l [wrap64 (e + 2)] [wrap64 (e + 1)] (by decide) (by decide) (by decide) rfl rfl (by simp; omega) rfl (congrArg (fun x => [x]) (dec_is e 2 1 rfl)) (by simp; omega) rfl ?_
  refine al_cons 42 l [wrap64 (e + 1)] [e] (by decide) (by decide) (by decide) rfl rfl (by simp; omega) rfl (congrArg (fun x => [x]) (dec_last he)) (by simp; omega) rfl ?_
  exact al_nil _
/-- The last cells of a stack. -/
theorem last4 {d : List Int} (h : 4 ≤ d.length) : ∃ l a b c e, d = l ++ [a, b, c, e] := by
  have h1 : (d.drop (d.length - 4)).length = 4 := by simp; omega
  match hx : d.drop (d.length - 4), h1 with
  | [a, b, c, e], _ => exact ⟨d.take (d.length - 4), a, b, c, e, by rw [← hx, List.take_append_drop]⟩
theorem back_all {d : List Int} (h : 4 ≤ d.length) (h2 : d.length ≤ 64) (hC : AllC d) : AlOk [20, 20, 22, 22, 22, 45, 45, 52, 52, 70, 70, 27, 27] d d ∧ AlOk [41, 42, 72, 42, 42, 42, 42, 42, 42, 42, 42] d d := by
  obtain ⟨l, a, b, c, e, rfl⟩ := last4 h
  have hc : InC c := hC c (by simp)
  have he : InC e := hC e (by simp)
  simp at h2
  refine ⟨back_one l a b c e (by omega) hc he, ?_⟩
  have := back_two (l ++ [a, b, c]) e (by simp; omega) he
  rw [List.append_assoc] at this
  exact this
end Go.Proofs.YtnlkggfgloblcaaGreat

/-
  Who is due at one time and then at a later one: those who are due at that at once.
-/
import Derived.Test.YtpkfmbknbdlnpaaTimerMath
import Derived.Test.YtpkfmbknbdlnpaaCellMath
namespace Go.Proofs.Ytpkfmbknbdlnpaa

section
variable {l : List Np} {a b : Int}
theorem ov_ov (h : a ≤ b) : ovL (ovL l a) b = ovL l b := by
  unfold ovL
  rw [List.filter_filter]
  congr 1
  funext o
  rw [← Bool.decide_and]
  exact decide_eq_decide.2 (by omega)
theorem up_append (l m : List Np) : upL (l ++ m) b = upL l b ++ upL m b := by unfold upL; simp
theorem up_up (h : a ≤ b) : upL (upL l a) b = upL l a := List.filter_eq_self.2 fun o ho => by
  have := of_decide_eq_true (List.mem_filter.1 ho).2
  exact decide_eq_true (by omega)
theorem up_parts (g : l.Pairwise fun x y => x.t ≤ y.t) (h : a ≤ b) : upL l b = upL l a ++ upL (ovL l a) b := by
  have e := up_append (b := b) (upL l a) (ovL l a)
  rw [up_ov g a, up_up h] at e
  exact e
theorem ni_parts (g : l.Pairwise fun x y => x.t ≤ y.t) (h : a ≤ b) : niL (upL l b) = niL (upL l a) ++ niL (upL (ovL l a) b) := by
  rw [up_parts g h]
  unfold niL
  simp
theorem ov_up_len (g : l.Pairwise fun x y => x.t ≤ y.t) : (ovL l b).length + (niL (upL l b)).length = l.length := by
  have e := congrArg List.length (up_ov g b)
  unfold niL
  simp at e ⊢
  omega
end
/-- A place of two lists put together. -/
theorem app_lt {i j : List Int} {q : Nat} (h : q < i.length) : (i ++ j).getD q 0 = i.getD q 0 := by
  simp [List.getD, List.getElem?_append_left h]
theorem app_ge {i j : List Int} {q : Nat} (h : i.length ≤ q) : (i ++ j).getD q 0 = j.getD (q - i.length) 0 := by
  simp [List.getD, List.getElem?_append_right h]
theorem low16 (x : Int) : bits .and .i64 x 65535 = x % 65536 := bits_and_low 16 (by decide) x
end Go.Proofs.Ytpkfmbknbdlnpaa

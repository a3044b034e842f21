/-
  What Do answers, whatever the number and the stack.
-/
import Derived.Test.YtnlkggfgloblcaaGreatPureFnA
import Derived.Test.YtnlkggfgloblcaaGreatPureFnB
import Derived.Test.YtnlkggfgloblcaaGreatPureFnC
import Derived.Test.YtnlkggfgloblcaaGreatPureEntry
import Derived.Test.YtnlkggfgloblcaaGreatOpFew
import Derived.Shelf.Abstract
namespace Go.Proofs.YtnlkggfgloblcaaGreat
open Go.RowKit

theorem len0 {x : List Int} (h : x.length = 0) : x = [] := List.eq_nil_of_length_eq_zero h
theorem len1 {x : List Int} (h : x.length = 1) : ∃ a, x = [a] := by
  match x, h with
  | [a], _ => exact ⟨a, rfl⟩
theorem len2 {x : List Int} (h : x.length = 2) : ∃ a b, x = [a, b] := by
  match x, h with
  | [a, b], _ => exact ⟨a, b, rfl⟩
theorem len3 {x : List Int} (h : x.length = 3) : ∃ a b c, x = [a, b, c] := by
  match x, h with
  | [a, b, c], _ => exact ⟨a, b, c, rfl⟩
theorem len4 {x : List Int} (h : x.length = 4) : ∃ a b c d, x = [a, b, c, d] := by
  match x, h with
  | [a, b, c, d], _ => exact ⟨a, b, c, d, rfl⟩
/-- What an operation's own call answers. -/
def FnSays (k : Nat) : Prop := ∀ (A : Option Addr) (n q : Nat) (l : List Int) (B : Option Addr) (m N : Nat) (x : List Int) (w : World), n ≤ 10000 → Stk w A n q l → Stk w B N m x → N = puNs.getD (k - 18) 0 → AllC x →
    Calls Tryz.prog (puF k) #[.slice A n q, .slice B N m] w (PuPost w (puL k l x) (puE k l x))
theorem fn18 : FnSays 18 := by
  intro A n q l B m N x w hn h1 h2 hN hC
  subst hN
  obtain ⟨a, rfl⟩ := len1 (x := x) h2.len
  exact p18_any A n q l B m a w hn h1 h2 (hC _ (by simp))
theorem fn19 : FnSays 19 := by
  intro A n q l B m N x w hn h1 h2 hN hC
  subst hN
  obtain ⟨a, rfl⟩ := len1 (x := x) h2.len
  exact p19_any A n q l B m a w hn h1 h2 (hC _ (by simp))
theorem fn20 : FnSays 20 := by
  intro A n q l B m N x w hn h1 h2 hN hC
  subst hN
  obtain ⟨a, b, rfl⟩ := len2 (x := x) h2.len
  exact p20_any A n q l B m a b w hn h1 h2 (hC _ (by simp)) (hC _ (by simp))
theorem fn21 : FnSays 21 := by
  intro A n q l B m N x w hn h1 h2 hN hC
  subst hN
  obtain ⟨a, b, rfl⟩ := len2 (x := x) h2.len
  exact p21_any A n q l B m a b w hn h1 h2 (hC _ (by simp)) (hC _ (by simp))
theorem fn22 : FnSays 22 := by
  intro A n q l B m N x w hn h1 h2 hN hC
  subst hN
  obtain ⟨a, b, c, rfl⟩ := len3 (x := x) h2.len
  exact p22_any A n q l B m a b c w hn h1 h2 (hC _ (by simp)) (hC _ (by simp)) (hC _ (by simp))
theorem fn23 : FnSays 23 := by
  intro A n q l B m N x w hn h1 h2 hN hC
  subst hN
  obtain ⟨a, b, rfl⟩ := len2 (x := x) h2.len
  exact p23_any A n q l B m a b w hn h1 h2 (hC _ (by simp)) (hC _ (by simp))
theorem fn24 : FnSays 24 := by
  intro A n q l B m N x w hn h1 h2 hN hC
  subst hN
  obtain ⟨a, b, rfl⟩ := len2 (x := x) h2.len
  exact p24_any A n q l B m a b w hn h1 h2 (hC _ (by simp)) (hC _ (by simp))
theorem fn25 : FnSays 25 := by
  intro A n q l B m N x w hn h1 h2 hN hC
  subst hN
  obtain ⟨a, b, rfl⟩ := len2 (x := x) h2.len
  exact p25_any A n q l B m a b w hn h1 h2 (hC _ (by simp)) (hC _ (by simp))
theorem fn26 : FnSays 26 := by
  intro A n q l B m N x w hn h1 h2 hN hC
  subst hN
  obtain ⟨a, b, rfl⟩ := len2 (x := x) h2.len
  exact p26_any A n q l B m a b w hn h1 h2 (hC _ (by simp)) (hC _ (by simp))
theorem fn27 : FnSays 27 := by
  intro A n q l B m N x w hn h1 h2 hN hC
  subst hN
  obtain ⟨a, b, c, d, rfl⟩ := len4 (x := x) h2.len
  exact p27_any A n q l B m a b c d w hn h1 h2 (hC _ (by simp)) (hC _ (by simp)) (hC _ (by simp)) (hC _ (by simp))
theorem fn28 : FnSays 28 := by
  intro A n q l B m N x w hn h1 h2 hN hC
  subst hN
  obtain ⟨a, b, c, d, rfl⟩ := len4 (x := x) h2.len
  exact p28_any A n q l B m a b c d w hn h1 h2 (hC _ (by simp)) (hC _ (by simp)) (hC _ (by simp)) (hC _ (by simp))
theorem fn29 : FnSays 29 := by
  intro A n q l B m N x w hn h1 h2 hN hC
  subst hN
  obtain ⟨a, rfl⟩ := len1 (x := x) h2.len
  exact p29_any A n q l B m a w hn h1 h2 (hC _ (by simp))
theorem fn30 : FnSays 30 := by
  intro A n q l B m N x w hn h1 h2 hN hC
  subst hN
  obtain ⟨a, rfl⟩ := len1 (x := x) h2.len
  exact p30_any A n q l B m a w hn h1 h2 (hC _ (by simp))
theorem fn31 : FnSays 31 := by
  intro A n q l B m N x w hn h1 h2 hN hC
  subst hN
  obtain ⟨a, rfl⟩ := len1 (x := x) h2.len
  exact p31_any A n q l B m a w hn h1 h2 (hC _ (by simp))
theorem fn32 : FnSays 32 := by
  intro A n q l B m N x w hn h1 h2 hN hC
  subst hN
  obtain rfl := len0 (x := x) h2.len
  exact p32_any A n q l B m  w hn h1 h2
theorem fn33 : FnSays 33 := by
  intro A n q l B m N x w hn h1 h2 hN hC
  subst hN
  obtain ⟨a, b, rfl⟩ := len2 (x := x) h2.len
  exact p33_any A n q l B m a b w hn h1 h2 (hC _ (by simp)) (hC _ (by simp))
theorem fn34 : FnSays 34 := by
  intro A n q l B m N x w hn h1 h2 hN hC
  subst hN
  obtain ⟨a, b, rfl⟩ := len2 (x := x) h2.len
  exact p34_any A n q l B m a b w hn h1 h2 (hC _ (by simp)) (hC _ (by simp))
theorem fn35 : FnSays 35 := by
  intro A n q l B m N x w hn h1 h2 hN hC
  subst hN
  obtain ⟨a, b, rfl⟩ := len2 (x := x) h2.len
  exact p35_any A n q l B m a b w hn h1 h2 (hC _ (by simp)) (hC _ (by simp))
theorem fn36 : FnSays 36 := by
  intro A n q l B m N x w hn h1 h2 hN hC
  subst hN
  obtain ⟨a, b, rfl⟩ := len2 (x := x) h2.len
  exact p36_any A n q l B m a b w hn h1 h2 (hC _ (by simp)) (hC _ (by simp))
theorem fn37 : FnSays 37 := by
  intro A n q l B m N x w hn h1 h2 hN hC
  subst hN
  obtain ⟨a, b, rfl⟩ := len2 (x := x) h2.len
  exact p37_any A n q l B m a b w hn h1 h2 (hC _ (by simp)) (hC _ (by simp))
theorem fn38 : FnSays 38 := by
  intro A n q l B m N x w hn h1 h2 hN hC
  subst hN
  obtain ⟨a, b, rfl⟩ := len2 (x := x) h2.len
  exact p38_any A n q l B m a b w hn h1 h2 (hC _ (by simp)) (hC _ (by simp))
theorem fn39 : FnSays 39 := by
  intro A n q l B m N x w hn h1 h2 hN hC
  subst hN
  obtain ⟨a, b, c, rfl⟩ := len3 (x := x) h2.len
  exact p39_any A n q l B m a b c w hn h1 h2 (hC _ (by simp)) (hC _ (by simp)) (hC _ (by simp))
theorem fn40 : FnSays 40 := by
  intro A n q l B m N x w hn h1 h2 hN hC
  subst hN
  obtain ⟨a, b, c, rfl⟩ := len3 (x := x) h2.len
  exact p40_any A n q l B m a b c w hn h1 h2 (hC _ (by simp)) (hC _ (by simp)) (hC _ (by simp))
theorem fn41 : FnSays 41 := by
  intro A n q l B m N x w hn h1 h2 hN hC
  subst hN
  obtain ⟨a, rfl⟩ := len1 (x := x) h2.len
  exact p41_any A n q l B m a w hn h1 h2 (hC _ (by simp))
theorem fn42 : FnSays 42 := by
  intro A n q l B m N x w hn h1 h2 hN hC
  subst hN
  obtain ⟨a, rfl⟩ := len1 (x := x) h2.len
  exact p42_any A n q l B m a w hn h1 h2 (hC _ (by simp))
theorem fn43 : FnSays 43 := by
  intro A n q l B m N x w hn h1 h2 hN hC
  subst hN
  obtain ⟨a, rfl⟩ := len1 (x := x) h2.len
  exact p43_any A n q l B m a w hn h1 h2 (hC _ (by simp))
theorem fn44 : FnSays 44 := by
  intro A n q l B m N x w hn h1 h2 hN hC
  subst hN
  obtain ⟨a, rfl⟩ := len1 (x := x) h2.len
  exact p44_any A n q l B m a w hn h1 h2 (hC _ (by simp))
theorem fn45 : FnSays 45 := by
  intro A n q l B m N x w hn h1 h2 hN hC
  subst hN
  obtain ⟨a, rfl⟩ := len1 (x := x) h2.len
  exact p45_any A n q l B m a w hn h1 h2 (hC _ (by simp))
theorem fn46 : FnSays 46 := by
  intro A n q l B m N x w hn h1 h2 hN hC
  subst hN
  obtain ⟨a, rfl⟩ := len1 (x := x) h2.len
  exact p46_any A n q l B m a w hn h1 h2 (hC _ (by simp))
theorem fn47 : FnSays 47 := by
  intro A n q l B m N x w hn h1 h2 hN hC
  subst hN
  obtain ⟨a, b, rfl⟩ := len2 (x := x) h2.len
  exact p47_any A n q l B m a b w hn h1 h2 (hC _ (by simp)) (hC _ (by simp))
theorem fn48 : FnSays 48 := by
  intro A n q l B m N x w hn h1 h2 hN hC
  subst hN
  obtain ⟨a, b, rfl⟩ := len2 (x := x) h2.len
  exact p48_any A n q l B m a b w hn h1 h2 (hC _ (by simp)) (hC _ (by simp))
theorem fn49 : FnSays 49 := by
  intro A n q l B m N x w hn h1 h2 hN hC
  subst hN
  obtain ⟨a, b, rfl⟩ := len2 (x := x) h2.len
  exact p49_any A n q l B m a b w hn h1 h2 (hC _ (by simp)) (hC _ (by simp))
theorem fn50 : FnSays 50 := by
  intro A n q l B m N x w hn h1 h2 hN hC
  subst hN
  obtain ⟨a, b, rfl⟩ := len2 (x := x) h2.len
  exact p50_any A n q l B m a b w hn h1 h2 (hC _ (by simp)) (hC _ (by simp))
theorem fn51 : FnSays 51 := by
  intro A n q l B m N x w hn h1 h2 hN hC
  subst hN
  obtain ⟨a, b, rfl⟩ := len2 (x := x) h2.len
  exact p51_any A n q l B m a b w hn h1 h2 (hC _ (by simp)) (hC _ (by simp))
theorem fn52 : FnSays 52 := by
  intro A n q l B m N x w hn h1 h2 hN hC
  subst hN
  obtain ⟨a, rfl⟩ := len1 (x := x) h2.len
  exact p52_any A n q l B m a w hn h1 h2 (hC _ (by simp))
theorem fn53 : FnSays 53 := by
  intro A n q l B m N x w hn h1 h2 hN hC
  subst hN
  obtain ⟨a, b, rfl⟩ := len2 (x := x) h2.len
  exact p53_any A n q l B m a b w hn h1 h2 (hC _ (by simp)) (hC _ (by simp))
theorem fn54 : FnSays 54 := by
  intro A n q l B m N x w hn h1 h2 hN hC
  subst hN
  obtain ⟨a, b, rfl⟩ := len2 (x := x) h2.len
  exact p54_any A n q l B m a b w hn h1 h2 (hC _ (by simp)) (hC _ (by simp))
theorem fn55 : FnSays 55 := by
  intro A n q l B m N x w hn h1 h2 hN hC
  subst hN
  obtain ⟨a, b, rfl⟩ := len2 (x := x) h2.len
  exact p55_any A n q l B m a b w hn h1 h2 (hC _ (by simp)) (hC _ (by simp))
theorem fn56 : FnSays 56 := by
  intro A n q l B m N x w hn h1 h2 hN hC
  subst hN
  obtain ⟨a, b, rfl⟩ := len2 (x := x) h2.len
  exact p56_any A n q l B m a b w hn h1 h2 (hC _ (by simp)) (hC _ (by simp))
theorem fn57 : FnSays 57 := by
  intro A n q l B m N x w hn h1 h2 hN hC
  subst hN
  obtain ⟨a, b, rfl⟩ := len2 (x := x) h2.len
  exact p57_any A n q l B m a b w hn h1 h2 (hC _ (by simp)) (hC _ (by simp))
theorem fn58 : FnSays 58 := by
  intro A n q l B m N x w hn h1 h2 hN hC
  subst hN
  obtain ⟨a, b, rfl⟩ := len2 (x := x) h2.len
  exact p58_any A n q l B m a b w hn h1 h2 (hC _ (by simp)) (hC _ (by simp))
theorem fn59 : FnSays 59 := by
  intro A n q l B m N x w hn h1 h2 hN hC
  subst hN
  obtain ⟨a, b, rfl⟩ := len2 (x := x) h2.len
  exact p59_any A n q l B m a b w hn h1 h2 (hC _ (by simp)) (hC _ (by simp))
theorem fn60 : FnSays 60 := by
  intro A n q l B m N x w hn h1 h2 hN hC
  subst hN
  obtain ⟨a, rfl⟩ := len1 (x := x) h2.len
  exact p60_any A n q l B m a w hn h1 h2 (hC _ (by simp))
theorem fn61 : FnSays 61 := by
  intro A n q l B m N x w hn h1 h2 hN hC
  subst hN
  obtain ⟨a, rfl⟩ := len1 (x := x) h2.len
  exact p61_any A n q l B m a w hn h1 h2 (hC _ (by simp))
theorem fn62 : FnSays 62 := by
  intro A n q l B m N x w hn h1 h2 hN hC
  subst hN
  obtain ⟨a, b, c, rfl⟩ := len3 (x := x) h2.len
  exact p62_any A n q l B m a b c w hn h1 h2 (hC _ (by simp)) (hC _ (by simp)) (hC _ (by simp))
theorem fn63 : FnSays 63 := by
  intro A n q l B m N x w hn h1 h2 hN hC
  subst hN
  obtain ⟨a, b, rfl⟩ := len2 (x := x) h2.len
  exact p63_any A n q l B m a b w hn h1 h2 (hC _ (by simp)) (hC _ (by simp))
theorem fn64 : FnSays 64 := by
  intro A n q l B m N x w hn h1 h2 hN hC
  subst hN
  obtain ⟨a, b, rfl⟩ := len2 (x := x) h2.len
  exact p64_any A n q l B m a b w hn h1 h2 (hC _ (by simp)) (hC _ (by simp))
theorem fn65 : FnSays 65 := by
  intro A n q l B m N x w hn h1 h2 hN hC
  subst hN
  obtain ⟨a, b, c, rfl⟩ := len3 (x := x) h2.len
  exact p65_any A n q l B m a b c w hn h1 h2 (hC _ (by simp)) (hC _ (by simp)) (hC _ (by simp))
theorem fn66 : FnSays 66 := by
  intro A n q l B m N x w hn h1 h2 hN hC
  subst hN
  obtain ⟨a, b, c, rfl⟩ := len3 (x := x) h2.len
  exact p66_any A n q l B m a b c w hn h1 h2 (hC _ (by simp)) (hC _ (by simp)) (hC _ (by simp))
theorem fn67 : FnSays 67 := by
  intro A n q l B m N x w hn h1 h2 hN hC
  subst hN
  obtain ⟨a, b, c, rfl⟩ := len3 (x := x) h2.len
  exact p67_any A n q l B m a b c w hn h1 h2 (hC _ (by simp)) (hC _ (by simp)) (hC _ (by simp))
theorem fn68 : FnSays 68 := by
  intro A n q l B m N x w hn h1 h2 hN hC
  subst hN
  obtain ⟨a, rfl⟩ := len1 (x := x) h2.len
  exact p68_any A n q l B m a w hn h1 h2 (hC _ (by simp))
theorem fn69 : FnSays 69 := by
  intro A n q l B m N x w hn h1 h2 hN hC
  subst hN
  obtain ⟨a, b, c, d, rfl⟩ := len4 (x := x) h2.len
  exact p69_any A n q l B m a b c d w hn h1 h2 (hC _ (by simp)) (hC _ (by simp)) (hC _ (by simp)) (hC _ (by simp))
theorem fn70 : FnSays 70 := by
  intro A n q l B m N x w hn h1 h2 hN hC
  subst hN
  obtain ⟨a, b, rfl⟩ := len2 (x := x) h2.len
  exact p70_any A n q l B m a b w hn h1 h2 (hC _ (by simp)) (hC _ (by simp))
theorem fn71 : FnSays 71 := by
  intro A n q l B m N x w hn h1 h2 hN hC
  subst hN
  obtain ⟨a, rfl⟩ := len1 (x := x) h2.len
  exact p71_any A n q l B m a w hn h1 h2 (hC _ (by simp))
theorem fn72 : FnSays 72 := by
  intro A n q l B m N x w hn h1 h2 hN hC
  subst hN
  obtain ⟨a, rfl⟩ := len1 (x := x) h2.len
  exact p72_any A n q l B m a w hn h1 h2 (hC _ (by simp))
theorem fn73 : FnSays 73 := by
  intro A n q l B m N x w hn h1 h2 hN hC
  subst hN
  obtain ⟨a, rfl⟩ := len1 (x := x) h2.len
  exact p73_any A n q l B m a w hn h1 h2 (hC _ (by simp))
theorem fn74 : FnSays 74 := by
  intro A n q l B m N x w hn h1 h2 hN hC
  subst hN
  obtain ⟨a, rfl⟩ := len1 (x := x) h2.len
  exact p74_any A n q l B m a w hn h1 h2 (hC _ (by simp))
theorem fn_any (k : Nat) (h1 : 18 ≤ k) (h2 : k ≤ 74) : FnSays k := by
  rcases op_split k h1 h2 with rfl | rfl | rfl | rfl | rfl | rfl | rfl | rfl | rfl | rfl | rfl | rfl | rfl | rfl | rfl | rfl | rfl | rfl | rfl | rfl | rfl | rfl | rfl | rfl | rfl | rfl | rfl | rfl | rfl | rfl | rfl | rfl | rfl | rfl | rfl | rfl | rfl | rfl | rfl | rfl | rfl | rfl | rfl | rfl | rfl | rfl | rfl | rfl | rfl | rfl | rfl | rfl | rfl | rfl | rfl | rfl | rfl
  · exact fn18
  · exact fn19
  · exact fn20
  · exact fn21
  · exact fn22
  · exact fn23
  · exact fn24
  · exact fn25
  · exact fn26
  · exact fn27
  · exact fn28
  · exact fn29
  · exact fn30
  · exact fn31
  · exact fn32
  · exact fn33
  · exact fn34
  · exact fn35
  · exact fn36
  · exact fn37
  · exact fn38
  · exact fn39
  · exact fn40
  · exact fn41
  · exact fn42
  · exact fn43
  · exact fn44
  · exact fn45
  · exact fn46
  · exact fn47
  · exact fn48
  · exact fn49
  · exact fn50
  · exact fn51
  · exact fn52
  · exact fn53
  · exact fn54
  · exact fn55
  · exact fn56
  · exact fn57
  · exact fn58
  · exact fn59
  · exact fn60
  · exact fn61
  · exact fn62
  · exact fn63
  · exact fn64
  · exact fn65
  · exact fn66
  · exact fn67
  · exact fn68
  · exact fn69
  · exact fn70
  · exact fn71
  · exact fn72
  · exact fn73
  · exact fn74
/-- A call of an operation enters it. -/
theorem enters_any (k : Nat) (h1 : 18 ≤ k) (h2 : k ≤ 74) : Enters Tryz.prog (puF k) := by
  rcases op_split k h1 h2 with rfl | rfl | rfl | rfl | rfl | rfl | rfl | rfl | rfl | rfl | rfl | rfl | rfl | rfl | rfl | rfl | rfl | rfl | rfl | rfl | rfl | rfl | rfl | rfl | rfl | rfl | rfl | rfl | rfl | rfl | rfl | rfl | rfl | rfl | rfl | rfl | rfl | rfl | rfl | rfl | rfl | rfl | rfl | rfl | rfl | rfl | rfl | rfl | rfl | rfl | rfl | rfl | rfl | rfl | rfl | rfl | rfl
  · exact enters_of Tryz.func42 (by kernel_rfl) rfl
  · exact enters_of Tryz.func44 (by kernel_rfl) rfl
  · exact enters_of Tryz.func45 (by kernel_rfl) rfl
  · exact enters_of Tryz.func46 (by kernel_rfl) rfl
  · exact enters_of Tryz.func47 (by kernel_rfl) rfl
  · exact enters_of Tryz.func48 (by kernel_rfl) rfl
  · exact enters_of Tryz.func49 (by kernel_rfl) rfl
  · exact enters_of Tryz.func50 (by kernel_rfl) rfl
  · exact enters_of Tryz.func51 (by kernel_rfl) rfl
  · exact enters_of Tryz.func52 (by kernel_rfl) rfl
  · exact enters_of Tryz.func53 (by kernel_rfl) rfl
  · exact enters_of Tryz.func54 (by kernel_rfl) rfl
  · exact enters_of Tryz.func55 (by kernel_rfl) rfl
  · exact enters_of Tryz.func56 (by kernel_rfl) rfl
  · exact enters_of Tryz.func58 (by kernel_rfl) rfl
  · exact enters_of Tryz.func59 (by kernel_rfl) rfl
  · exact enters_of Tryz.func60 (by kernel_rfl) rfl
  · exact enters_of Tryz.func61 (by kernel_rfl) rfl
  · exact enters_of Tryz.func62 (by kernel_rfl) rfl
  · exact enters_of Tryz.func63 (by kernel_rfl) rfl
  · exact enters_of Tryz.func64 (by kernel_rfl) rfl
  · exact enters_of Tryz.func65 (by kernel_rfl) rfl
  · exact enters_of Tryz.func66 (by kernel_rfl) rfl
  · exact enters_of Tryz.func67 (by kernel_rfl) rfl
  · exact enters_of Tryz.func68 (by kernel_rfl) rfl
  · exact enters_of Tryz.func69 (by kernel_rfl) rfl
  · exact enters_of Tryz.func71 (by kernel_rfl) rfl
  · exact enters_of Tryz.func72 (by kernel_rfl) rfl
  · exact enters_of Tryz.func73 (by kernel_rfl) rfl
  · exact enters_of Tryz.func74 (by kernel_rfl) rfl
  · exact enters_of Tryz.func75 (by kernel_rfl) rfl
  · exact enters_of Tryz.func76 (by kernel_rfl) rfl
  · exact enters_of Tryz.func77 (by kernel_rfl) rfl
  · exact enters_of Tryz.func78 (by kernel_rfl) rfl
  · exact enters_of Tryz.func79 (by kernel_rfl) rfl
  · exact enters_of Tryz.func80 (by kernel_rfl) rfl
  · exact enters_of Tryz.func81 (by kernel_rfl) rfl
  · exact enters_of Tryz.func83 (by kernel_rfl) rfl
  · exact enters_of Tryz.func85 (by kernel_rfl) rfl
  · exact enters_of Tryz.func86 (by kernel_rfl) rfl
  · exact enters_of Tryz.func87 (by kernel_rfl) rfl
  · exact enters_of Tryz.func88 (by kernel_rfl) rfl
  · exact enters_of Tryz.func90 (by kernel_rfl) rfl
  · exact enters_of Tryz.func91 (by kernel_rfl) rfl
  · exact enters_of Tryz.func92 (by kernel_rfl) rfl
  · exact enters_of Tryz.func94 (by kernel_rfl) rfl
  · exact enters_of Tryz.func97 (by kernel_rfl) rfl
  · exact enters_of Tryz.func99 (by kernel_rfl) rfl
  · exact enters_of Tryz.func100 (by kernel_rfl) rfl
  · exact enters_of Tryz.func101 (by kernel_rfl) rfl
  · exact enters_of Tryz.func102 (by kernel_rfl) rfl
  · exact enters_of Tryz.func104 (by kernel_rfl) rfl
  · exact enters_of Tryz.func107 (by kernel_rfl) rfl
  · exact enters_of Tryz.func109 (by kernel_rfl) rfl
  · exact enters_of Tryz.func110 (by kernel_rfl) rfl
  · exact enters_of Tryz.func111 (by kernel_rfl) rfl
  · exact enters_of Tryz.func112 (by kernel_rfl) rfl
end Go.Proofs.YtnlkggfgloblcaaGreat

/-
  The two kinds of maps of package hist: where an operation stands, under its task; which tasks hold a lock.
-/
import Derived.Test.YtpkjepbeeebdoaaDoorAnyMapDel
namespace Go.Proofs.YtpkjepbeeebdoaaDoor
open Go.RowKit

def mkI : MK Int Nat where
  T := 39
  K := 3
  E := 3
  kv := fun x => .int .i64 x
  ev := fun j => .int .i64 (j : Int)
  ez := 0
  eq := fun x y => x == y
  under := Tryd.underlying39
  check := fun b x w => MapKept.run_checkKey Tryd.underlying3 (by simp [MapKept.IsKey]) b 9999
  find := find_now (kv := fun x => .int .i64 x) (ev := fun (j : Nat) => .int .i64 (j : Int)) (eq := fun x y => x == y) Tryd.underlying3 (fun x y => rfl)
  zero := fun w => by kernel_rfl
def mkU : MK Int Unit where
  T := 44
  K := 3
  E := 46
  kv := fun x => .int .i64 x
  ev := fun _ => .agg #[]
  ez := ()
  eq := fun x y => x == y
  under := Tryd.underlying44
  check := fun b x w => MapKept.run_checkKey Tryd.underlying3 (by simp [MapKept.IsKey]) b 9999
  find := find_now (kv := fun x => .int .i64 x) (ev := fun (_ : Unit) => .agg #[]) (eq := fun x y => x == y) Tryd.underlying3 (fun x y => rfl)
  zero := fun w => by kernel_rfl
theorem eqI (x y : Int) : mkI.eq x y = true ↔ x = y := by show (x == y) = true ↔ _; simp
theorem eqU (x y : Int) : mkU.eq x y = true ↔ x = y := by show (x == y) = true ↔ _; simp
theorem sbI (x : Int) : Instr.sameBits 10000 (.int .i64 x) (.int .i64 x) = true := by unfold Instr.sameBits; simp
/-- A set, as the list of who is in it. -/
def stU (H : List Int) : List (Int × Unit) := H.map fun t => (t, ())
theorem st_len (H : List Int) : (stU H).length = H.length := by simp [stU]
theorem st_has (H : List Int) (x : Int) : mkU.has (stU H) x = H.contains x := by
  rw [Bool.eq_iff_iff, has_iff eqU]
  simp [stU]
theorem st_del (H : List Int) (hn : H.Nodup) (x : Int) : dl mkU.eq x (stU H) = stU (H.filter (· ≠ x)) := by
  induction H with
  | nil => rfl
  | cons y H ih =>
    rw [List.nodup_cons] at hn
    show dl mkU.eq x ((y, ()) :: stU H) = _
    unfold dl
    by_cases h : y = x
    · subst h
      rw [if_pos ((eqU y y).2 rfl), List.filter_cons_of_neg (by simp)]
      congr 1
      symm
      rw [List.filter_eq_self]
      intro z hz
      simp
      rintro rfl
      exact hn.1 hz
    · rw [if_neg (fun h2 => h ((eqU _ _).1 h2).symm), List.filter_cons_of_pos (by simpa using h), ih hn.2]
      rfl
theorem st_add (H : List Int) (x : Int) : stU H ++ [(x, ())] = stU (H ++ [x]) := by simp [stU]
end Go.Proofs.YtpkjepbeeebdoaaDoor

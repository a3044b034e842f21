/-
  Threads that are built, in plain words: a thread, marks and outs are lists of pairs of numbers; what each word does to them. No word of the program stands here.
-/
import Derived.Lib.Hide
namespace Go.Proofs.Ytkpomphjicoaeaa

/-- A thread as far as it is built. -/
structure Bd where
  code : List (Int × Int)
  marks : List (Int × Int)
  outs : List (Int × Int)
/-- How deep it is. -/
def flDeep (l : List (Int × Int)) : Nat := l.countP (fun m => m.1 == 3)
def flThere (n : Nat) (a : Int) : Bool := decide (0 ≤ a ∧ a < (n : Int))
def flMark (n : Nat) (m : Int × Int) : Bool := (m.1 == 1 && flThere n m.2) || ((m.1 == 2 || m.1 == 3) && (flThere n m.2 || m.2 == (n : Int)))
def flOut (d n : Nat) (m : Int × Int) : Bool := decide (1 ≤ m.1 ∧ m.1 ≤ (d : Int)) && flThere n m.2
def flSane (b : Bd) : Bool := decide (b.code.length ≤ 4096) && b.marks.all (flMark b.code.length) && b.outs.all (flOut (flDeep b.marks) b.code.length)
def flSnd (b : Bd) : Bd := if flSane b then b else ⟨[], [], []⟩
def flLeads (o : Int) : Bool := o == 1 || o == 2 || o == 6 || o == 7 || o == 8
/-- Does an instruction of a thread of n lead nowhere else? -/
def flLed (n : Nat) (i : Int × Int) : Bool := !(flLeads i.1) || flThere n i.2
def flEnds : List (Int × Int) → Bool
  | [] => false
  | x :: l => ((x :: l).getLast (by simp)).1 == 4
def flWhole (l : List (Int × Int)) : Bool := flEnds l && l.all (flLed l.length)
/-- A place of c is given the Arg n; some places. -/
def flSet (n : Nat) (c : List (Int × Int)) (a : Int) : List (Int × Int) := c.set a.toNat ((c.getD a.toNat (0, 0)).1, (n : Int))
def flRes (n : Nat) (c : List (Int × Int)) (l : List Int) : List (Int × Int) := l.foldl (flSet n) c

-- What is laid, marked, taken, resolved.
def layE (b : Bd) (k : Nat) : Int := if 4096 < b.code.length + k then -8 else 0
def layB (b : Bd) (x : List (Int × Int)) : Bd := if 4096 < b.code.length + x.length then b else ⟨b.code ++ x, b.marks, b.outs⟩
def markB (b : Bd) (k a : Int) : Bd := ⟨b.code, b.marks ++ [(k, a)], b.outs⟩
def outB (b : Bd) (a : Int) : Bd := ⟨b.code, b.marks, b.outs ++ [((flDeep b.marks : Int), a)]⟩
def resB (b : Bd) (l : List Int) : Bd := ⟨flRes b.code.length b.code l, b.marks, b.outs⟩
def topK (b : Bd) : Int := (b.marks.getLastD (0, 0)).1
def topA (b : Bd) : Int := (b.marks.getLastD (0, 0)).2
def takeB (b : Bd) : Bd := ⟨b.code, b.marks.dropLast, b.outs⟩
def aheadB (b : Bd) (o : Int) : Bd := markB (layB b [(o, 0)]) 1 (b.code.length : Int)
def beginB (b : Bd) (o : Int) : Bd := markB (layB b [(o, 0)]) 3 ((layB b [(o, 0)]).code.length : Int)
def backE (b : Bd) (k : Int) : Int := if topK b = k then layE (takeB b) 1 else -22
def backB (b : Bd) (k o : Int) : Bd := if topK b = k then layB (takeB b) [(o, topA b)] else b
def placesB (d : Nat) (l : List (Int × Int)) : List Int := (l.filter (fun m => m.1 == (d : Int))).map (·.2)
def othersB (d : Nat) (l : List (Int × Int)) : List (Int × Int) := l.filter (fun m => !(m.1 == (d : Int)))
def endB (b : Bd) (o : Int) : Bd :=
  if backE b 3 = 0 then resB ⟨(backB b 3 o).code, (backB b 3 o).marks, othersB (flDeep b.marks) b.outs⟩ (placesB (flDeep b.marks) b.outs) else backB b 3 o

/-- The words that lead. -/
inductive Wd where
  | if_ | else_ | then_ | begin_ | again | until_ | while_ | repeat_ | do_ | mayDo | loop_ | plusLoop | leave
/-- Their texts. -/
def wdT : Wd → List UInt8
  | .if_ => [73, 70] | .else_ => [69, 76, 83, 69] | .then_ => [84, 72, 69, 78] | .begin_ => [66, 69, 71, 73, 78] | .again => [65, 71, 65, 73, 78]
  | .until_ => [85, 78, 84, 73, 76] | .while_ => [87, 72, 73, 76, 69] | .repeat_ => [82, 69, 80, 69, 65, 84] | .do_ => [68, 79] | .mayDo => [63, 68, 79]
  | .loop_ => [76, 79, 79, 80] | .plusLoop => [43, 76, 79, 79, 80] | .leave => [76, 69, 65, 86, 69]
def wdAll : List Wd := [.if_, .else_, .then_, .begin_, .again, .until_, .while_, .repeat_, .do_, .mayDo, .loop_, .plusLoop, .leave]
/-- What a word's own call answers: the throw, and the thread (half done, beside a throw). -/
def wdE (b : Bd) : Wd → Int
  | .if_ => layE b 1
  | .else_ => if topK b = 1 then layE b 1 else -22
  | .then_ => if topK b = 1 then 0 else -22
  | .begin_ => 0
  | .again => backE b 2
  | .until_ => backE b 2
  | .while_ => if topK b = 2 then layE b 1 else -22
  | .repeat_ => if topK b = 2 then (if topK (takeB b) = 1 then layE b 1 else -22) else -22
  | .do_ => layE b 1
  | .mayDo => layE b 1
  | .loop_ => backE b 3
  | .plusLoop => backE b 3
  | .leave => if flDeep b.marks = 0 then -22 else layE b 2
def wdB (b : Bd) : Wd → Bd
  | .if_ => aheadB b 2
  | .else_ => if topK b = 1 then resB (aheadB (takeB b) 1) [topA b] else b
  | .then_ => if topK b = 1 then resB (takeB b) [topA b] else b
  | .begin_ => markB b 2 (b.code.length : Int)
  | .again => backB b 2 1
  | .until_ => backB b 2 2
  | .while_ => if topK b = 2 then markB (aheadB (takeB b) 2) 2 (topA b) else b
  | .repeat_ => if topK b = 2 then (if topK (takeB b) = 1 then resB (layB (takeB (takeB b)) [(1, topA b)]) [topA (takeB b)] else takeB b) else b
  | .do_ => beginB b 5
  | .mayDo => outB (beginB b 6) (b.code.length : Int)
  | .loop_ => endB b 7
  | .plusLoop => endB b 8
  | .leave => if flDeep b.marks = 0 then b else outB (layB b [(9, 0), (1, 0)]) ((layB b [(9, 0), (1, 0)]).code.length - 1 : Int)
/-- What is behind a word: as it was, beside a throw. -/
def wdN (b : Bd) (d : Wd) : Bd := if wdE b d = 0 then wdB b d else b
/-- Which word a text in capitals is. -/
def wdF (u : List UInt8) : Option Wd := wdAll.find? (fun d => u == wdT d)
def finE (b : Bd) : Int := if 0 < b.marks.length then -22 else layE b 1
def finL (b : Bd) : List (Int × Int) := if finE b = 0 then b.code ++ [(4, 0)] else []

theorem wdF_some {u : List UInt8} {d : Wd} (h : wdF u = some d) : u = wdT d := by
  unfold wdF at h
  have := List.find?_some h
  simpa using this
theorem wdF_none {u : List UInt8} (h : wdF u = none) (d : Wd) : (u == wdT d) = false := by
  unfold wdF at h
  rw [List.find?_eq_none] at h
  have := h d (by cases d <;> simp [wdAll])
  simpa using this
theorem flSet_length (n : Nat) (c : List (Int × Int)) (a : Int) : (flSet n c a).length = c.length := by simp [flSet]
theorem flRes_length (n : Nat) (l : List Int) (c : List (Int × Int)) : (flRes n c l).length = c.length := by
  induction l generalizing c with
  | nil => rfl
  | cons a l ih => show (flRes n (flSet n c a) l).length = _; rw [ih, flSet_length]
theorem flRes_snoc (n : Nat) (c : List (Int × Int)) (l : List Int) (a : Int) : flRes n c (l ++ [a]) = flSet n (flRes n c l) a := by simp [flRes]
theorem flDeep_le (l : List (Int × Int)) : flDeep l ≤ l.length := List.countP_le_length
theorem flDeep_snoc (l : List (Int × Int)) (m : Int × Int) : flDeep (l ++ [m]) = flDeep l + if m.1 == 3 then 1 else 0 := by
  unfold flDeep
  rw [List.countP_append, List.countP_cons, List.countP_nil]
  simp
end Go.Proofs.Ytkpomphjicoaeaa

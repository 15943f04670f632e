import Derived.WalkKit
namespace Go.Proofs.Ytpoejdkfhofimaa.Tl

/-- the smaller of two numbers -/
def mn (a b : Int) : Int := if a < b then a else b

/-- what comes of every b-th number below n -/
def every (b : Nat) (f : Nat → List Int) (n : Nat) : List Int := (List.range n).flatMap fun k => if k % b = 0 then f k else []

theorem every_zero (b : Nat) (f : Nat → List Int) : every b f 0 = [] := rfl
theorem every_succ (b : Nat) (f : Nat → List Int) (n : Nat) : every b f (n + 1) = every b f n ++ (if n % b = 0 then f n else []) := by
  unfold every; rw [List.range_succ, List.flatMap_append]; simp
theorem every_hit (b : Nat) (f : Nat → List Int) (n : Nat) (h : n % b = 0) : every b f (n + 1) = every b f n ++ f n := by rw [every_succ, if_pos h]
theorem every_miss (b : Nat) (f : Nat → List Int) (n : Nat) (h : n % b ≠ 0) : every b f (n + 1) = every b f n := by rw [every_succ, if_neg h, List.append_nil]
theorem every_upto (b : Nat) (f : Nat → List Int) (m : Nat) (h : m % b = 0) : ∀ t, t < b → every b f (m + (t + 1)) = every b f m ++ f m := by
  intro t
  induction t with
  | zero => intro _; exact every_hit b f m h
  | succ t ih =>
    intro ht
    rw [show m + (t + 1 + 1) = (m + (t + 1)) + 1 from rfl, every_miss b f _ ?_, ih (by omega)]
    rw [Nat.add_mod, h, Nat.zero_add, Nat.mod_mod, Nat.mod_eq_of_lt ht]; omega
theorem every_step (b : Nat) (f : Nat → List Int) (m N : Nat) (h : m % b = 0) (hb : 0 < b) (hm : m < N) : every b f (min (m + b) N) = every b f m ++ f m := by
  obtain ⟨t, ht, e⟩ : ∃ t, t < b ∧ min (m + b) N = m + (t + 1) := ⟨min b (N - m) - 1, by omega, by omega⟩
  rw [e]; exact every_upto b f m h t ht

/-- a tile; the tiles of a row of tiles up to a column; of all rows up to one -/
def tile (R C br bc i k : Nat) : List Int := [(i : Int), mn ((i : Int) + br) R, (k : Int), mn ((k : Int) + bc) C]
def rowT (R C br bc i k : Nat) : List Int := every bc (tile R C br bc i) k
def allT (R C br bc i : Nat) : List Int := every br (fun i => rowT R C br bc i C) i

theorem rowT_step (R C br bc i k : Nat) (h : k % bc = 0) (hb : 0 < bc) (hk : k < C) : rowT R C br bc i (min (k + bc) C) = rowT R C br bc i k ++ tile R C br bc i k := every_step bc _ k C h hb hk
theorem allT_step (R C br bc i : Nat) (h : i % br = 0) (hb : 0 < br) (hi : i < R) : allT R C br bc (min (i + br) R) = allT R C br bc i ++ rowT R C br bc i C := every_step br _ i R h hb hi
theorem mn_gt {a b : Int} (h : b < a) : mn a b = b := by unfold mn; rw [if_neg (by omega)]
theorem mn_le {a b : Int} (h : ¬ b < a) : mn a b = a := by unfold mn; split <;> omega
theorem rowT_zero (R C br bc i : Nat) : rowT R C br bc i 0 = [] := rfl
theorem allT_zero (R C br bc : Nat) : allT R C br bc 0 = [] := rfl

end Go.Proofs.Ytpoejdkfhofimaa.Tl

import Derived.Test.YtpoejdkfhofimaaTileL
namespace Go.Proofs.Ytpoejdkfhofimaa.Tl

/-- where the tiles begin -/
def prs (R C br bc : Nat) : List (Nat × Nat) := (List.range R).flatMap fun i => if i % br = 0 then (List.range C).flatMap (fun k => if k % bc = 0 then [(i, k)] else []) else []

theorem allT_prs (R C br bc : Nat) : allT R C br bc R = (prs R C br bc).flatMap fun p => tile R C br bc p.1 p.2 := by
  unfold allT every prs
  rw [List.flatMap_assoc]
  congr 1
  funext i
  by_cases h : i % br = 0
  · simp only [h, if_true]
    unfold rowT every
    rw [List.flatMap_assoc]
    congr 1
    funext k
    by_cases h' : k % bc = 0 <;> simp [h']
  · simp [h]

theorem four {ps : List (Nat × Nat)} {f : Nat × Nat → List Int} (hf : ∀ p, (f p).length = 4) : (ps.flatMap f).length = ps.length * 4 := by
  induction ps with
  | nil => rfl
  | cons p ps ih => rw [List.flatMap_cons, List.length_append, hf, ih, List.length_cons]; omega
theorem four_at {f : Nat × Nat → List Int} (hf : ∀ p, (f p).length = 4) : ∀ (ps : List (Nat × Nat)) (T s : Nat) (hT : T < ps.length), s < 4 → (ps.flatMap f).getD (T * 4 + s) 0 = (f ps[T]).getD s 0 := by
  intro ps
  induction ps with
  | nil => intro T s hT; simp at hT
  | cons p ps ih =>
    intro T s hT hs
    rw [List.flatMap_cons]
    cases T with
    | zero =>
      rw [Nat.zero_mul, Nat.zero_add, List.getD_eq_getElem?_getD, List.getElem?_append_left (by rw [hf]; exact hs), ← List.getD_eq_getElem?_getD]
      rfl
    | succ T =>
      have hT' : T < ps.length := by simpa using hT
      have e := ih T s hT' hs
      rw [List.getD_eq_getElem?_getD, List.getElem?_append_right (by rw [hf]; omega), hf, show (T + 1) * 4 + s - 4 = T * 4 + s by omega, ← List.getD_eq_getElem?_getD, e]
      rfl
theorem tile_len (R C br bc i k : Nat) : (tile R C br bc i k).length = 4 := rfl

theorem mem_prs {R C br bc : Nat} {p : Nat × Nat} (h : p ∈ prs R C br bc) : p.1 < R ∧ p.2 < C ∧ p.1 % br = 0 ∧ p.2 % bc = 0 := by
  unfold prs at h
  obtain ⟨i, hi, h⟩ := List.mem_flatMap.1 h
  split at h
  · rename_i hm
    obtain ⟨k, hk, h⟩ := List.mem_flatMap.1 h
    split at h
    · rename_i hm'
      simp at h
      subst h
      exact ⟨List.mem_range.1 hi, List.mem_range.1 hk, hm, hm'⟩
    · simp at h
  · simp at h

/-- does the tile that begins there hold the place? -/
def cov (br bc r c : Nat) (p : Nat × Nat) : Bool := decide ((p.1 ≤ r ∧ r < p.1 + br) ∧ (p.2 ≤ c ∧ c < p.2 + bc))

theorem block_iff {b n c : Nat} (hb : 0 < b) (hn : n % b = 0) : (n ≤ c ∧ c < n + b) ↔ n = c / b * b := by
  constructor
  · rintro ⟨h1, h2⟩
    have e : n = n / b * b := by have := Nat.div_add_mod n b; rw [hn, Nat.add_zero, Nat.mul_comm] at this; exact this.symm
    have : c / b = n / b := Nat.div_eq_of_lt_le (by rw [← e]; exact h1) (by rw [Nat.add_mul, Nat.one_mul, ← e]; exact h2)
    rw [this]; exact e
  · intro h
    have e := Nat.div_add_mod c b
    have l := Nat.mod_lt c hb
    rw [Nat.mul_comm] at e
    omega

theorem inner_count {br bc r c : Nat} (hb : 0 < bc) (i : Nat) : ∀ n, ((List.range n).flatMap (fun k => if k % bc = 0 then [(i, k)] else [])).countP (cov br bc r c) = if (i ≤ r ∧ r < i + br) ∧ c / bc * bc < n then 1 else 0 := by
  intro n
  induction n with
  | zero => simp
  | succ n ih =>
    rw [List.range_succ, List.flatMap_append, List.countP_append, ih]
    simp only [List.flatMap_cons, List.flatMap_nil, List.append_nil]
    by_cases hn : n % bc = 0
    · have bi := block_iff (c := c) hb hn
      rw [if_pos hn, List.countP_singleton]
      unfold cov
      simp only [decide_eq_true_eq]
      by_cases x : i ≤ r ∧ r < i + br
      · simp only [x, true_and, and_self]
        by_cases y : n = c / bc * bc
        · rw [if_neg (by omega), if_pos (bi.2 y), if_pos (by omega)]
        · rw [if_neg (fun h => y (bi.1 h))]
          by_cases z : c / bc * bc < n
          · rw [if_pos z, if_pos (by omega)]
          · rw [if_neg z, if_neg (by omega)]
      · rw [if_neg (fun h => x h.1), if_neg (fun h => x h.1), if_neg (fun h => x h.1)]
    · rw [if_neg hn, List.countP_nil, Nat.add_zero]
      have : n ≠ c / bc * bc := fun e => hn (by rw [e]; exact Nat.mul_mod_left _ _)
      by_cases x : i ≤ r ∧ r < i + br
      · by_cases z : c / bc * bc < n
        · rw [if_pos ⟨x, z⟩, if_pos ⟨x, by omega⟩]
        · rw [if_neg (fun h => z h.2), if_neg (fun h => by have := h.2; omega)]
      · rw [if_neg (fun h => x h.1), if_neg (fun h => x h.1)]

theorem outer_count {br bc r c C : Nat} (ha : 0 < br) (hb : 0 < bc) (hc : c < C) : ∀ n, ((List.range n).flatMap fun i => if i % br = 0 then (List.range C).flatMap (fun k => if k % bc = 0 then [(i, k)] else []) else []).countP (cov br bc r c) = if r / br * br < n then 1 else 0 := by
  have hcc : c / bc * bc < C := Nat.lt_of_le_of_lt (Nat.div_mul_le_self c bc) hc
  intro n
  induction n with
  | zero => simp
  | succ n ih =>
    rw [List.range_succ, List.flatMap_append, List.countP_append, ih]
    simp only [List.flatMap_cons, List.flatMap_nil, List.append_nil]
    by_cases hn : n % br = 0
    · have bi := block_iff (c := r) ha hn
      rw [if_pos hn, inner_count hb]
      by_cases y : n = r / br * br
      · rw [if_neg (by omega), if_pos ⟨bi.2 y, hcc⟩, if_pos (by omega)]
      · rw [if_neg (show ¬ ((n ≤ r ∧ r < n + br) ∧ c / bc * bc < C) from fun h => y (bi.1 h.1))]
        by_cases z : r / br * br < n
        · rw [if_pos z, if_pos (by omega)]
        · rw [if_neg z, if_neg (by omega)]
    · rw [if_neg hn, List.countP_nil, Nat.add_zero]
      have : n ≠ r / br * br := fun e => hn (by rw [e]; exact Nat.mul_mod_left _ _)
      by_cases z : r / br * br < n
      · rw [if_pos z, if_pos (by omega)]
      · rw [if_neg z, if_neg (by omega)]

theorem count_one {R C br bc r c : Nat} (ha : 0 < br) (hb : 0 < bc) (hr : r < R) (hc : c < C) : (prs R C br bc).countP (cov br bc r c) = 1 := by
  unfold prs
  rw [outer_count ha hb hc, if_pos (Nat.lt_of_le_of_lt (Nat.div_mul_le_self r br) hr)]

/-- how often a place has been seen when T tiles are done -/
def seenN (R C br bc T x : Nat) : Nat := ((prs R C br bc).take T).countP (cov br bc (x / C) (x % C))
theorem seenN_zero (R C br bc x : Nat) : seenN R C br bc 0 x = 0 := by simp [seenN]
theorem seenN_le (R C br bc T x : Nat) : seenN R C br bc T x ≤ T := by
  unfold seenN
  exact Nat.le_trans List.countP_le_length (List.length_take_le _ _)
theorem seenN_succ {R C br bc T x : Nat} (h : T < (prs R C br bc).length) : seenN R C br bc (T + 1) x = seenN R C br bc T x + if cov br bc (x / C) (x % C) (prs R C br bc)[T] = true then 1 else 0 := by
  unfold seenN
  rw [List.take_succ_eq_append_getElem h, List.countP_append, List.countP_singleton]
theorem seenN_all {R C br bc x : Nat} (ha : 0 < br) (hb : 0 < bc) (hx : x < R * C) : seenN R C br bc (prs R C br bc).length x = 1 := by
  unfold seenN
  rw [List.take_length]
  have hC : 0 < C := by
    rcases Nat.eq_zero_or_pos C with h | h
    · subst h; simp at hx
    · exact h
  exact count_one ha hb (Nat.div_lt_of_lt_mul (by rw [Nat.mul_comm]; exact hx)) (Nat.mod_lt _ hC)

/-- and while a tile is being done -/
def inPart (C i k d r c x : Nat) : Prop := ((i ≤ x / C ∧ x / C < r) ∧ (k ≤ x % C ∧ x % C < d)) ∨ (x / C = r ∧ (k ≤ x % C ∧ x % C < c))
def part (C i k d r c x : Nat) : Nat := if (((i ≤ x / C ∧ x / C < r) ∧ (k ≤ x % C ∧ x % C < d)) ∨ (x / C = r ∧ (k ≤ x % C ∧ x % C < c))) then 1 else 0
theorem part_start (C i k d x : Nat) : part C i k d i k x = 0 := by unfold part; rw [if_neg (by omega)]
theorem part_row (C i k d r x : Nat) (h : i ≤ r) : part C i k d r d x = part C i k d (r + 1) k x := by
  unfold part
  by_cases y : ((i ≤ x / C ∧ x / C < r) ∧ (k ≤ x % C ∧ x % C < d)) ∨ (x / C = r ∧ (k ≤ x % C ∧ x % C < d))
  · rw [if_pos y, if_pos (by omega)]
  · rw [if_neg y, if_neg (by omega)]
theorem part_le (C i k d r c x : Nat) : part C i k d r c x ≤ 1 := by unfold part; split <;> omega
theorem at_div {C r c : Nat} (hc : c < C) : (r * C + c) / C = r ∧ (r * C + c) % C = c := by
  constructor
  · rw [Nat.mul_comm, Nat.mul_add_div (by omega), Nat.div_eq_of_lt hc, Nat.add_zero]
  · rw [Nat.mul_comm, Nat.mul_add_mod, Nat.mod_eq_of_lt hc]
theorem part_here {C i k d r c : Nat} (hc : c < C) (hk : k ≤ c) : part C i k d r c (r * C + c) = 0 ∧ part C i k d r (c + 1) (r * C + c) = 1 := by
  obtain ⟨e1, e2⟩ := at_div (r := r) hc
  unfold part
  rw [e1, e2]
  exact ⟨if_neg (by omega), if_pos (by omega)⟩
theorem part_else {C i k d r c x : Nat} (hx : x ≠ r * C + c) : part C i k d r (c + 1) x = part C i k d r c x := by
  have e := Nat.div_add_mod x C
  have h : ¬ (x / C = r ∧ x % C = c) := fun h => hx (by rw [← e, h.1, h.2, Nat.mul_comm])
  unfold part
  by_cases y : ((i ≤ x / C ∧ x / C < r) ∧ (k ≤ x % C ∧ x % C < d)) ∨ (x / C = r ∧ (k ≤ x % C ∧ x % C < c))
  · rw [if_pos y, if_pos (by omega)]
  · rw [if_neg y, if_neg (by omega)]
theorem part_end {R C br bc i k x : Nat} (hx : x < R * C) : part C i k (min (k + bc) C) (min (i + br) R) k x = if cov br bc (x / C) (x % C) (i, k) = true then 1 else 0 := by
  have hC : 0 < C := by
    rcases Nat.eq_zero_or_pos C with h | h
    · subst h; simp at hx
    · exact h
  have h1 : x / C < R := Nat.div_lt_of_lt_mul (by rw [Nat.mul_comm]; exact hx)
  have h2 := Nat.mod_lt x hC
  unfold part cov
  simp only [decide_eq_true_eq]
  by_cases y : (i ≤ x / C ∧ x / C < i + br) ∧ (k ≤ x % C ∧ x % C < k + bc)
  · rw [if_pos y, if_pos (by omega)]
  · rw [if_neg y, if_neg (by omega)]

end Go.Proofs.Ytpoejdkfhofimaa.Tl

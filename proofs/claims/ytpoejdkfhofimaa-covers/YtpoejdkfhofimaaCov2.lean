import Derived.Test.YtpoejdkfhofimaaCov
namespace Go.Proofs.Ytpoejdkfhofimaa
open Go.RowKit Classical Tl

theorem mn_nat (a b c : Nat) : mn ((a : Int) + b) c = ((min (a + b) c : Nat) : Int) := by unfold mn; split <;> omega

/-- what a tile is, and where it lies in the list -/
theorem tile_at {R C br bc T : Nat} (hT : T < (prs R C br bc).length) :
    (allT R C br bc R).getD (T * 4) 0 = (((prs R C br bc)[T].1 : Nat) : Int) ∧ (allT R C br bc R).getD (T * 4 + 1) 0 = ((min ((prs R C br bc)[T].1 + br) R : Nat) : Int) ∧ (allT R C br bc R).getD (T * 4 + 2) 0 = (((prs R C br bc)[T].2 : Nat) : Int) ∧ (allT R C br bc R).getD (T * 4 + 3) 0 = ((min ((prs R C br bc)[T].2 + bc) C : Nat) : Int) := by
  have h := fun s hs => four_at (f := fun p => tile R C br bc p.1 p.2) (fun p => tile_len R C br bc p.1 p.2) (prs R C br bc) T s hT hs
  rw [allT_prs]
  refine ⟨?_, ?_, ?_, ?_⟩
  · have := h 0 (by omega); rw [Nat.add_zero] at this; rw [this]; rfl
  · rw [h 1 (by omega)]; exact mn_nat _ _ _
  · rw [h 2 (by omega)]; rfl
  · rw [h 3 (by omega)]; exact mn_nat _ _ _

theorem flat_le {α : Type} (f : Nat → List α) (m : Nat) (hf : ∀ k, (f k).length ≤ m) : ∀ n, ((List.range n).flatMap f).length ≤ n * m := by
  intro n
  induction n with
  | zero => simp
  | succ n ih =>
    rw [List.range_succ, List.flatMap_append, List.length_append, Nat.add_mul, Nat.one_mul]
    have := hf n
    have e : (List.flatMap f [n]).length = (f n).length := by rw [List.flatMap_cons, List.flatMap_nil, List.append_nil]
    rw [e]
    omega
theorem allL_count (R C br bc : Nat) : (prs R C br bc).length ≤ R * C := by
  unfold prs
  refine flat_le _ C (fun i => ?_) R
  split
  · have := flat_le (fun k => if k % bc = 0 then [(i, k)] else []) 1 (fun k => by split <;> simp) C
    omega
  · simp

set_option maxRecDepth 100000 in
set_option maxHeartbeats 1000000 in
theorem cov_ok (j : Jb) (w : World) (k1 : sidB j.o = true) (k2 : blkB j = true) :
    Calls Try.prog 8 #[.agg (jcells j)] w fun e w' => e = .returned (.bool true) ∧ Below w.heap.size w w' := by
  have P0 := hid' planning_any
  have P1 := hid' (Plan_tiles j)
  obtain ⟨e1, e2⟩ := plan_3 k1 k2
  rw [e1, e2] at P1
  obtain ⟨q1, q2, q3, q4⟩ := sidB_bd k1
  obtain ⟨q5, q6, q7, q8, _, _⟩ := blkB_bd k2
  obtain ⟨R, hR⟩ := Int.eq_ofNat_of_zero_le q1
  obtain ⟨C, hC⟩ := Int.eq_ofNat_of_zero_le q3
  obtain ⟨br, hbr⟩ := Int.eq_ofNat_of_zero_le (by omega : 0 ≤ j.br)
  obtain ⟨bc, hbc⟩ := Int.eq_ofNat_of_zero_le (by omega : 0 ≤ j.bc)
  rw [hR, hC, hbr, hbc] at P1
  simp only [Int.toNat_natCast] at P1
  have r1 : R ≤ 24 := by omega
  have r2 : C ≤ 24 := by omega
  have r3 : 1 ≤ br := by omega
  have r4 : br ≤ 64 := by omega
  have r5 : 1 ≤ bc := by omega
  have r6 : bc ≤ 64 := by omega
  have hRC : R * C ≤ 576 := Nat.mul_le_mul r1 r2
  have mc : ((R : Int) * (C : Int)) = ((R * C : Nat) : Int) := by simp
  have m1 : 0 ≤ (R : Int) * (C : Int) := by omega
  have m2 : (R : Int) * (C : Int) ≤ 576 := by omega
  have hmk := make_ints (R * C) ((R : Int) * (C : Int)) mc (by omega)
  clear e1 e2 k1 k2 q1 q2 q3 q4 q5 q6 q7 q8 mc
  have d1 : decide ((R : Int) < 0) = false := decide_eq_false (by omega)
  have d2 : decide (24 < (R : Int)) = false := decide_eq_false (by omega)
  have d3 : decide ((C : Int) < 0) = false := decide_eq_false (by omega)
  have d4 : decide (24 < (C : Int)) = false := decide_eq_false (by omega)
  go_enter Try.func8, Try.ntmps8
  go_upto_region 3 with (first | (go_at_call 22; refine (P0.out _).mono ?_; clear P0; rintro e w1 ⟨rfl, hb⟩; have H := hid' (JBox.new (j := j) rfl hb); clear hb) | (go_at_call 19; refine (P1.out _).mono ?_; clear P1; rintro e w2 ⟨a, n, c, rfl, ht, hb⟩; have H2 := hid' (H.out.on hb); have HT := hid' ht; clear hb ht H) | (refine wpList_load_mid rfl 36 (.tmp 1) rfl w.heap.size 0 rfl (jcells j).toList _ H.out.range Try.underlying36 rfl (jinfo j) ?_))
  have hc := H2.out.cells
  have hn : n = (prs R C br bc).length := by
    have := HT.out.len
    rw [allT_prs, four (fun p => tile_len R C br bc p.1 p.2)] at this
    omega
  have HN := hid' hn
  have hnb : n ≤ 1000 := by
    have := HT.out.len
    have l1 := allL_count R C br bc
    rw [hn]; omega
  clear hn
  go_wp2_with fail
  have SE0 : Hid (SeenAt w2.heap.size (R * C) (seenN R C br bc 0) (w2.alloc (.cells (mki (R * C)) 3))) := fun x hx => by
    have e := cells_new w2 (mki (R * C)) 3 x
    rw [mki_at _ x hx] at e
    rw [seenN_zero]
    exact e
  have BW0 : Hid (Below w2.heap.size w2 (w2.alloc (.cells (mki (R * C)) 3))) := (Below.refl _ _).alloc (Nat.le_refl _) _
  have SZ0 : w2.heap.size < (w2.alloc (.cells (mki (R * C)) 3)).heap.size := by simp
  revert SE0 BW0 SZ0
  generalize w2.alloc (.cells (mki (R * C)) 3) = W0
  intro SE0 BW0 SZ0
  clear hc hmk
  go_loopw [9] (fun i wr => ∃ T : Nat, i = .int .i64 T ∧ T ≤ n ∧ w2.heap.size < wr.heap.size ∧ Hid (Below w2.heap.size w2 wr) ∧ Hid (SeenAt w2.heap.size (R * C) (seenN R C br bc T) wr)) (fun i _ => n - (intOf i).toNat)
  case atStart => exact ⟨0, rfl, by omega, SZ0, BW0, SE0⟩
  case round =>
    obtain ⟨T, rfl, hT, hsz, BW, SE⟩ := hrel
    have hc := (H2.out.on (BW.out)).cells
    by_cases hlt : T < n
    · obtain ⟨g, rfl, hg, hcell⟩ := HT.out.lies (by omega)
      have hTp : T < (prs R C br bc).length := by rw [← HN.out]; exact hlt
      obtain ⟨t0, t1, t2, t3⟩ := tile_at hTp
      obtain ⟨y1, y2, y3, y4⟩ := mem_prs (List.getElem_mem hTp)
      have SS : Hid (∀ x, seenN R C br bc (T + 1) x = seenN R C br bc T x + if cov br bc (x / C) (x % C) (prs R C br bc)[T] = true then 1 else 0) := fun x => seenN_succ hTp
      revert t0 t1 t2 t3 y1 y2 y3 y4 SS
      generalize (prs R C br bc)[T] = p
      obtain ⟨i, k⟩ := p
      intro t0 t1 t2 t3 y1 y2 y3 y4 SS
      dsimp only at t0 t1 t2 t3 y1 y2 y3 y4 SS
      obtain ⟨b, hb⟩ : ∃ b, b = min (i + br) R := ⟨_, rfl⟩
      obtain ⟨d, hd⟩ : ∃ d, d = min (k + bc) C := ⟨_, rfl⟩
      rw [← hb] at t1
      rw [← hd] at t3
      have p0 : wr.cell? ⟨g, T * 4, none⟩ = some (.int .i64 (i : Int)) := by rw [BW.out.cell (p := ⟨g, T * 4, none⟩) hg, hcell _ (by omega), t0]
      have p1 : wr.cell? ⟨g, T * 4 + 1, none⟩ = some (.int .i64 (b : Int)) := by rw [BW.out.cell (p := ⟨g, T * 4 + 1, none⟩) hg, hcell _ (by omega), t1]
      have p2 : wr.cell? ⟨g, T * 4 + 2, none⟩ = some (.int .i64 (k : Int)) := by rw [BW.out.cell (p := ⟨g, T * 4 + 2, none⟩) hg, hcell _ (by omega), t2]
      have p3 : wr.cell? ⟨g, T * 4 + 3, none⟩ = some (.int .i64 (d : Int)) := by rw [BW.out.cell (p := ⟨g, T * 4 + 3, none⟩) hg, hcell _ (by omega), t3]
      have x1 : i < b := by omega
      have x2 : b ≤ R := by omega
      have x3 : k < d := by omega
      have x4 : d ≤ C := by omega
      have x5 : b ≤ i + br := by omega
      have x6 : d ≤ k + bc := by omega
      have HBD := hid' (And.intro hb hd)
      have z1 : decide ((i : Int) < 0) = false := decide_eq_false (by omega)
      have z2 : decide (b ≤ i) = false := decide_eq_false (by omega)
      have z3 : decide (R < b) = false := decide_eq_false (by omega)
      have z4 : decide ((k : Int) < 0) = false := decide_eq_false (by omega)
      have z5 : decide (d ≤ k) = false := decide_eq_false (by omega)
      have z6 : decide (C < d) = false := decide_eq_false (by omega)
      have hzw : w.heap.size < wr.heap.size := by have := H2.out.size; omega
      have z7 : decide ((br : Int) < (b : Int) - (i : Int)) = false := decide_eq_false (by omega)
      have z8 : decide ((bc : Int) < (d : Int) - (k : Int)) = false := decide_eq_false (by omega)
      have c1 : ((b : Int) - (i : Int) != (br : Int)) = false ∨ (((b : Int) - (i : Int) != (br : Int)) = true ∧ ((b : Int) != (R : Int)) = false ∧ (b != R) = false) := by
        by_cases e : b - i = br
        · left; simp; omega
        · right; refine ⟨?_, ?_, ?_⟩ <;> simp <;> omega
      have c2 : ((d : Int) - (k : Int) != (bc : Int)) = false ∨ (((d : Int) - (k : Int) != (bc : Int)) = true ∧ ((d : Int) != (C : Int)) = false ∧ (d != C) = false) := by
        by_cases e : d - k = bc
        · left; simp; omega
        · right; refine ⟨?_, ?_, ?_⟩ <;> simp <;> omega
      clear t0 t1 t2 t3 hcell y3 y4 hb hd HT
      rcases c1 with c1 | ⟨c1, c1', c1''⟩ <;> rcases c2 with c2 | ⟨c2, c2', c2''⟩
      all_goals
        go_wp2_with fail
        have TB : Hid (TBox wr.heap.size i b k d (wr.alloc (.cells #[.int .i64 (i : Int), .int .i64 (b : Int), .int .i64 (k : Int), .int .i64 (d : Int)] 45))) := by
          have e := fun s => (cells_new wr #[.int .i64 (i : Int), .int .i64 (b : Int), .int .i64 (k : Int), .int .i64 (d : Int)] 45 s).1
          exact ⟨by simp, e 0, e 1, e 2, e 3⟩
        have BWT : Hid (Below w2.heap.size w2 (wr.alloc (.cells #[.int .i64 (i : Int), .int .i64 (b : Int), .int .i64 (k : Int), .int .i64 (d : Int)] 45))) := BW.out.alloc (by omega) _
        have SET : Hid (SeenAt w2.heap.size (R * C) (fun x => seenN R C br bc T x + Tl.part C i k d i k x) (wr.alloc (.cells #[.int .i64 (i : Int), .int .i64 (b : Int), .int .i64 (k : Int), .int .i64 (d : Int)] 45))) := (SE.out.on ((Below.refl _ _).alloc (Nat.le_refl _) _)).to (fun x _ => by rw [part_start, Nat.add_zero])
        revert TB BWT SET
        generalize wr.alloc (.cells #[.int .i64 (i : Int), .int .i64 (b : Int), .int .i64 (k : Int), .int .i64 (d : Int)] 45) = WT
        intro TB BWT SET
        clear hc p0 p1 p2 p3 z1 z2 z3 z4 z5 z6 z7 z8 SE BW
        revert TB hsz hzw
        generalize wr.heap.size = Bt
        intro hsz hzw TB
        go_loopw [11] (fun x wr1 => ∃ r : Nat, x = .int .i64 r ∧ i ≤ r ∧ r ≤ b ∧ Hid (Below w2.heap.size w2 wr1) ∧ Hid (SeenAt w2.heap.size (R * C) (fun x => seenN R C br bc T x + Tl.part C i k d r k x) wr1) ∧ Hid (TBox Bt i b k d wr1)) (fun x _ => b - (intOf x).toNat)
        case atStart => exact ⟨i, rfl, by omega, by omega, BWT, SET, TB⟩
        case round =>
          clear TB BWT SET
          obtain ⟨r, rfl, hr1, hr2, BW1, SE1, TB1⟩ := hrel
          have tb1 := TB1.out.2.2.1
          have tb2 := TB1.out.2.2.2.1
          by_cases hltr : r < b
          · have rC : r * C + C ≤ R * C := by
              have := Nat.mul_le_mul_right C (show r + 1 ≤ R by omega)
              rw [Nat.add_mul, Nat.one_mul] at this
              exact this
            have rc0 : ((r : Int) * (C : Int)) = ((r * C : Nat) : Int) := by simp
            have rc1 : 0 ≤ (r : Int) * (C : Int) := by omega
            have rc2 : (r : Int) * (C : Int) + C ≤ (R : Int) * (C : Int) := by
              have e : ((R : Int) * (C : Int)) = ((R * C : Nat) : Int) := by simp
              omega
            have RC0 := hid' rc0
            clear rc0
            go_wp2_with fail
            clear tb1 tb2
            go_loopw [12] (fun x wr2 => ∃ c : Nat, x = .int .i64 c ∧ k ≤ c ∧ c ≤ d ∧ Hid (Below w2.heap.size w2 wr2) ∧ Hid (SeenAt w2.heap.size (R * C) (fun x => seenN R C br bc T x + Tl.part C i k d r c x) wr2) ∧ Hid (TBox Bt i b k d wr2)) (fun x _ => d - (intOf x).toNat)
            case atStart => exact ⟨k, rfl, by omega, by omega, BW1, SE1, TB1⟩
            case round =>
              clear BW1 SE1 TB1
              obtain ⟨c, rfl, hc1, hc2, BW2, SE2, TB2⟩ := hrel
              have tb3 := TB2.out.2.2.2.2
              by_cases hltc : c < d
              · have hx0 : r * C + c < R * C := by omega
                obtain ⟨sc, sf⟩ := SE2.out (r * C + c) hx0
                have ph := part_here (i := i) (d := d) (r := r) (show c < C by omega) hc1
                have yb := seenN_le R C br bc T (r * C + c)
                have SN := hid' (fun x (hx : x ≠ r * C + c) => part_else (C := C) (i := i) (k := k) (d := d) (r := r) (c := c) hx)
                have PH := hid' ph.2
                dsimp only at sc
                rw [ph.1, Nat.add_zero] at sc
                clear ph
                obtain ⟨y, hy⟩ : ∃ y, y = seenN R C br bc T (r * C + c) := ⟨_, rfl⟩
                rw [← hy] at sc yb
                have HY := hid' hy
                clear hy
                have idx : (r : Int) * (C : Int) + (c : Int) < (R : Int) * (C : Int) := by omega
                have toN : ((r : Int) * (C : Int) + (c : Int)).toNat = r * C + c := by have := RC0.out; omega
                go_wp2_with fail
                go_roundw
                case rel =>
                  refine ⟨c + 1, by go_num, by omega, by omega, BW2.out.setCell (p := ⟨w2.heap.size, r * C + c, none⟩) (Nat.le_refl _) _, SE2.out.set hx0 ?_ (fun x _ hx => ?_), TB2.out.set (by omega)⟩
                  · rw [PH.out, ← HY.out]; omega
                  · show _ = _; try dsimp only
                    rw [SN.out x hx]
                case measure => simp [intOf]; omega
              · obtain rfl : c = d := by omega
                go_wp2_with fail
                go_roundw
                case rel => exact ⟨r + 1, by go_num, by omega, by omega, BW2, SE2.out.to (fun x _ => by rw [part_row C i k c r x hr1]), TB2⟩
                case measure => simp [intOf]; omega
          · obtain rfl : r = b := by omega
            go_wp2_with fail
            go_roundw
            case rel =>
              refine ⟨T + 1, by go_num, by omega, by have := TB1.out.1; omega, BW1, SE1.out.to (fun x hx => ?_)⟩
              rw [SS.out x]
              have := part_end (R := R) (C := C) (br := br) (bc := bc) (i := i) (k := k) hx
              rw [← HBD.out.1, ← HBD.out.2] at this
              rw [this]
            case measure => simp [intOf]; omega
    · obtain rfl : T = n := by omega
      have S1 : Hid (∀ x : Nat, x < R * C → wr.cell? ⟨w2.heap.size, x, none⟩ = some (.int .i64 1)) := fun x hx => by
        have e := (SE.out x hx).1
        rw [HN.out, seenN_all (by omega) (by omega) hx] at e
        exact e
      go_wp2_with fail
      go_loop [13] (fun x => ∃ t : Nat, x = .int .i64 t ∧ t ≤ R * C) (fun x => R * C - (intOf x).toNat)
      case atStart => exact ⟨0, rfl, by omega⟩
      case round =>
        obtain ⟨t, rfl, ht⟩ := hrel
        by_cases hlt4 : t < R * C
        · have ce := S1.out t hlt4
          have i4 : (t : Int) < (R : Int) * (C : Int) := by
            have e : ((R : Int) * (C : Int)) = ((R * C : Nat) : Int) := by simp
            omega
          go_wp2_with fail
          go_round
          case rel => exact ⟨t + 1, by go_num, by omega⟩
          case measure => simp [intOf]; omega
        · have i4 : ¬ (t : Int) < (R : Int) * (C : Int) := by
            have e : ((R : Int) * (C : Int)) = ((R * C : Nat) : Int) := by simp
            omega
          go_wp2_with fail
          go_ret
          exact ⟨rfl, H2.out.below.trans (BW.out.mono (by have := H2.out.size; omega))⟩

end Go.Proofs.Ytpoejdkfhofimaa

/-
  RingBlind: the walk
-/
import Derived.Test.YtmcnggkfejfjoaaDoorRingTwo
import Derived.Test.YtmcnggkfejfjoaaDoorRingOps
import Derived.Test.YtmcnggkfejfjoaaDoorSents
namespace Go.Proofs.YtmcnggkfejfjoaaDoor
open Go.RowKit Rint

theorem drew_cell {w : World} {p : Addr} {v : Value} (h : w.cell? p = some v) : w.drew.cell? p = some v := h
/-- what a round does to the list -/
def blindDo (n : Nat) (l : List Int) (o : OpV) : List Int :=
  if o.kind = 1 then l ++ o.items.take (n - l.length) else if o.kind = 2 then l.drop o.n.toNat else if o.kind = 3 then l.drop o.n.toNat else if o.kind = 4 then [] else l

set_option maxHeartbeats 8000000 in
set_option maxRecDepth 100000 in
theorem ringBlind_good (n : Nat) (hn : n ≤ 2147483647) (script looks : Value) (ops : List OpV) (ls : List Int) (w : World) (ho : OpsAt w script ops) (hl : ReadsOff Nowhere w looks (iv ls)) (hll : ls.length ≤ maxLen) :
    Calls Tryd.prog 7 #[.int .i64 n, script, looks] w fun e w' => e = .returned (.bool true) ∧ Below w.heap.size w w' := by
  obtain ⟨oa, oc, rfl, hoc, hom, hops⟩ := ho
  obtain ⟨la, lc, rfl, hlc, hls⟩ := id hl
  rw [iv_length] at hlc ⊢
  obtain ⟨no, hno⟩ : ∃ no, no = ops.length := ⟨_, rfl⟩
  obtain ⟨nl, hnl⟩ : ∃ nl, nl = ls.length := ⟨_, rfl⟩
  rw [← hno] at hoc ⊢
  rw [← hnl] at hlc hll ⊢
  have OPS : Aside _ := ⟨hops⟩
  have LS : Aside _ := ⟨hls⟩
  have LOOKS : Aside _ := ⟨hl⟩
  have NO : Aside _ := ⟨hno⟩
  have NL : Aside _ := ⟨hnl⟩
  have hno1 : no ≤ 9223372036854775807 := Nat.le_trans hoc hom
  have hnl1 : nl ≤ 9223372036854775807 := hll
  clear hops hls hl hno hnl
  go_enter Tryd.func7, Tryd.ntmps7
  go_wp2_with fail
  refine (fixed_ok w).mono ?_
  rintro e w1 ⟨rfl, b1⟩
  have B1 : Aside _ := ⟨b1⟩
  clear b1
  go_wp2_with fail
  refine (new_good w1 n hn).mono ?_
  rintro e w2 ⟨rfl, r2, k2⟩
  obtain ⟨pa, hpa⟩ : ∃ pa, pa = w1.heap.size := ⟨_, rfl⟩
  rw [← hpa] at r2 ⊢
  have R2 : Aside _ := ⟨r2⟩
  have K2 : Aside _ := ⟨k2⟩
  have PA : Aside _ := ⟨hpa⟩
  clear r2 k2 hpa
  go_wp2_with fail
  refine (new_good w2 n hn).mono ?_
  rintro e w3 ⟨rfl, r3, k3⟩
  obtain ⟨pb, hpb⟩ : ∃ pb, pb = w2.heap.size := ⟨_, rfl⟩
  rw [← hpb] at r3 ⊢
  have T3 : Aside (∃ own, TwoAt w.heap.size w (.pointer (some ⟨pa, 0, none⟩)) (.pointer (some ⟨pb, 0, none⟩)) n [] [] own w3) := by
    refine ⟨give (give (fun _ => 0) w1.heap.size 1) w2.heap.size 2, ⟨fun k hk => ?_, ?_, ?_⟩, ?_, ?_⟩
    · rw [give_old (by have := K2.it.size; have := B1.it.size; omega), give_old (by have := B1.it.size; omega)]
    · exact B1.it.trans (((K2.it.trans k3).bel).mono B1.it.size)
    · exact Nat.le_trans B1.it.size (K2.it.trans k3).size
    · refine (R2.it.later k3 (fun _ _ _ x => x)).mono (fun k hk _ => ?_)
      rw [give_old hk.2, give_new (by have := PA.it; omega)]
    · refine r3.mono (fun k hk _ => ?_)
      exact give_new (by omega)
  clear r3 k3 hpb R2 K2 B1 PA
  obtain ⟨a, ha⟩ : ∃ a, a = Value.pointer (some ⟨pa, 0, none⟩) := ⟨_, rfl⟩
  obtain ⟨b, hb⟩ : ∃ b, b = Value.pointer (some ⟨pb, 0, none⟩) := ⟨_, rfl⟩
  have HA : Aside _ := ⟨ha⟩
  have HB : Aside _ := ⟨hb⟩
  clear ha hb
  go_wp2
  rw [← HA.it, ← HB.it] at T3 ⊢
  go_loopw [49] (fun i wr => ∃ k : Nat, k ≤ no ∧ i = .int .i64 k ∧ ∃ l own, TwoAt w.heap.size w a b n l l own wr) (fun i _ => no - (intOf i).toNat)
  case atStart => exact ⟨0, Nat.zero_le _, rfl, [], T3.it⟩
  case round =>
    obtain ⟨k, hk, rfl, l, own, htwo⟩ := hrel
    have TW : Aside _ := ⟨htwo⟩
    clear htwo T3
    by_cases hkn : k < no
    · obtain ⟨op, hop⟩ : ∃ op, ops[k]? = some op := ⟨_, List.getElem?_eq_getElem (by have := NO.it; omega)⟩
      obtain ⟨xb, xo, s, rfl, c0, c1, c2, c3, hrd, hnd, _⟩ := OPS.it k op hop
      have d0 := TW.it.ground.cell rfl c0
      have d1 := TW.it.ground.cell rfl c1
      have d2 := TW.it.ground.cell rfl c2
      have d3 := TW.it.ground.cell rfl c3
      have RD : Aside _ := ⟨hrd⟩
      obtain ⟨sa, sc, hse, hsc, _⟩ := hrd
      obtain ⟨m, hm⟩ : ∃ m, m = (iv op.items).length := ⟨_, rfl⟩
      rw [← hm] at hse hsc
      subst hse
      clear c0 c1 c2 c3 hop hm
      go_upto_region 10 with fail
      obtain ⟨w4, hw4⟩ : ∃ w4, w4 = wr.alloc (.cells [.int .i64 op.kind, .int .i64 op.at', .int .i64 op.n, .slice sa m sc].toArray 38) := ⟨_, rfl⟩
      have ew : wr.alloc (.cells #[.int .i64 op.kind, .int .i64 op.at', .int .i64 op.n, .slice sa m sc] 38) = w4 := hw4.symm
      rw [ew]
      have ka : Keeps Nowhere wr w4 := by rw [hw4]; exact (Keeps.refl _ _).alloc _
      obtain ⟨own4, ho4⟩ : ∃ own4, own4 = give own wr.heap.size 5 := ⟨_, rfl⟩
      obtain ⟨bo, hbo⟩ : ∃ bo, bo = wr.heap.size := ⟨_, rfl⟩
      have TW4 : Aside (TwoAt w.heap.size w a b n l l own4 w4) := ⟨by rw [ho4]; exact TW.it.fresh ka 5⟩
      have CO4 : Aside (CellsO own4 5 w4 bo 38 [.int .i64 op.kind, .int .i64 op.at', .int .i64 op.n, .slice sa m sc]) := by
        refine ⟨?_, ?_⟩
        · rw [hw4, hbo]; exact Cells.new wr _ _
        · rw [ho4, hbo]; exact give_new (Nat.le_refl _)
      rw [← hbo]
      clear hw4 ew ka ho4 hbo TW d0 d1 d2 d3
      go_wp2
      go_loopw [55] (fun i wr => ∃ j : Nat, j ≤ nl ∧ i = .int .i64 j ∧ TwoAt w.heap.size w a b n l l own4 wr ∧ CellsO own4 5 wr bo 38 [.int .i64 op.kind, .int .i64 op.at', .int .i64 op.n, .slice sa m sc]) (fun i _ => nl - (intOf i).toNat)
      case atStart => exact ⟨0, Nat.zero_le _, rfl, TW4.it, CO4.it⟩
      case round =>
        obtain ⟨j, hj, rfl, htw, hco⟩ := hrel
        have TW : Aside _ := ⟨htw⟩
        have CO : Aside _ := ⟨hco⟩
        clear htw hco TW4 CO4
        by_cases hjn : j < nl
        · obtain ⟨y, rfl, _, hy⟩ := LS.it j (.int .i64 (ls.getD j 0)) (by simp [iv, show j < ls.length by have := NL.it; omega])
          have cy := TW.it.ground.cell rfl hy
          obtain ⟨u, hu⟩ : ∃ u, u = ls.getD j 0 := ⟨_, rfl⟩
          rw [← hu] at cy
          clear hy hu
          go_wp2_with fail
          refine (peekV TW.it.ra u).mono ?_
          rintro e w5 ⟨s5, rfl, _, _, k5⟩
          have TW5 : Aside _ := ⟨TW.it.quiet k5⟩
          have CO5 : Aside _ := ⟨CO.it.quiet k5⟩
          clear k5 TW CO
          go_wp2_with fail
          refine (atV TW5.it.ra u).mono ?_
          rintro e w6 ⟨rfl, k6⟩
          have TW6 : Aside _ := ⟨TW5.it.quiet k6⟩
          have CO6 : Aside _ := ⟨CO5.it.quiet k6⟩
          clear k6 TW5 CO5
          go_wp2_with fail
          refine (freeV TW6.it.ra).mono ?_
          rintro e w7 ⟨rfl, rfl⟩
          go_wp2_with fail
          refine (capV TW6.it.ra).mono ?_
          rintro e w8 ⟨rfl, rfl⟩
          go_wp2
          go_roundw
          case rel => exact ⟨j + 1, by omega, by go_num, TW6.it, CO6.it⟩
          case measure => simp [intOf]; omega
        · obtain rfl : j = nl := by omega
          have e0 : wr.cell? ⟨bo, 0, none⟩ = some (.int .i64 op.kind) := by rw [CO.it.1.cell]; rfl
          have hlen : op.items.length ≤ 9223372036854775807 := hnd
          have CW := TW.it.ra.len
          rw [iv_length] at CW
          by_cases k1 : op.kind = 1
          · have e3 : wr.cell? ⟨bo, 3, none⟩ = some (.slice sa m sc) := by rw [CO.it.1.cell]; rfl
            have TWd : Aside _ := ⟨TW.it.quiet (Keeps.refl Nowhere wr).drew⟩
            have COd : Aside _ := ⟨CO.it.quiet (Keeps.refl Nowhere wr).drew⟩
            clear TW CO
            go_upto_region 20 with fail
            go_region_held_law (fun w' => w'.cell? ⟨bo, 3, none⟩ = some (.slice sa m sc)) (with_reducible first | exact drew_cell e3 | exact g5 | exact g6) (first | (go_at_call 26; refine (two_push_b t5.it rfl _ op.items RD.it hlen).mono ?_; rintro e w6 ⟨rfl, ⟨own6, t6', h6⟩, k6⟩; have t6 : Aside _ := ⟨t6'⟩; have c6 : Aside _ := ⟨keepO c5.it k6 (by decide) h6⟩; have g6 : w6.cell? ⟨bo, 3, none⟩ = some (.slice sa m sc) := (by rw [c6.it.1.cell]; rfl); clear t6' h6 k6) | (go_at_call 26; refine (two_push_a TWd.it rfl _ op.items RD.it hlen).mono ?_; rintro e w5 ⟨rfl, ⟨own5, t5', h5⟩, k5⟩; have t5 : Aside _ := ⟨t5'⟩; have c5 : Aside _ := ⟨keepO COd.it k5 (by decide) h5⟩; have g5 : w5.cell? ⟨bo, 3, none⟩ = some (.slice sa m sc) := (by rw [c5.it.1.cell]; rfl); clear t5' h5 k5))
            go_wp2
            go_roundw
            case rel => exact ⟨k + 1, by omega, by go_num, _, _, t6.it⟩
            case measure => simp [intOf]; omega
          by_cases k2 : op.kind = 2
          · have e2 : wr.cell? ⟨bo, 2, none⟩ = some (.int .i64 op.n) := by rw [CO.it.1.cell]; rfl
            have TWd : Aside _ := ⟨TW.it.quiet (Keeps.refl Nowhere wr).drew⟩
            have COd : Aside _ := ⟨CO.it.quiet (Keeps.refl Nowhere wr).drew⟩
            clear TW CO
            go_upto_region 23 with fail
            have hpop : (l.take op.n.toNat).length ≤ 9223372036854775806 := by simp; omega
            go_region_held_law (fun w' => w'.cell? ⟨bo, 2, none⟩ = some (.int .i64 op.n)) (with_reducible first | exact drew_cell e2 | exact g5 | exact g6 | exact g7) (first | (go_at_call 40; refine (same_eq w6 s5 s6 (l.take op.n.toNat) q6.it.reads r6.it.reads hpop).mono ?_; rintro e w7 ⟨rfl, k7⟩; have t7 : Aside _ := ⟨t6.it.quiet k7⟩; have c7 : Aside _ := ⟨c6.it.quiet k7⟩; have g7 : w7.cell? ⟨bo, 2, none⟩ = some (.int .i64 op.n) := (by rw [c7.it.1.cell]; rfl); clear k7) | (go_at_call 28; refine (two_pop_b t5.it op.n).mono ?_; rintro e w6 ⟨s6, rfl, ⟨own6, t6', r6', h6⟩, k6⟩; have t6 : Aside _ := ⟨t6'⟩; have r6 : Aside _ := ⟨r6'⟩; have q6 : Aside _ := ⟨keepR r5.it k6 (by decide) h6⟩; have c6 : Aside _ := ⟨keepO c5.it k6 (by decide) h6⟩; have g6 : w6.cell? ⟨bo, 2, none⟩ = some (.int .i64 op.n) := (by rw [c6.it.1.cell]; rfl); clear t6' r6' h6 k6) | (go_at_call 28; refine (two_pop_a TWd.it op.n).mono ?_; rintro e w5 ⟨s5, rfl, ⟨own5, t5', r5', h5⟩, k5⟩; have t5 : Aside _ := ⟨t5'⟩; have r5 : Aside _ := ⟨r5'⟩; have c5 : Aside _ := ⟨keepO COd.it k5 (by decide) h5⟩; have g5 : w5.cell? ⟨bo, 2, none⟩ = some (.int .i64 op.n) := (by rw [c5.it.1.cell]; rfl); clear t5' r5' h5 k5))
            go_wp2
            go_roundw
            case rel => exact ⟨k + 1, by omega, by go_num, _, _, t7.it⟩
            case measure => simp [intOf]; omega
          by_cases k3 : op.kind = 3
          · have e2 : wr.cell? ⟨bo, 2, none⟩ = some (.int .i64 op.n) := by rw [CO.it.1.cell]; rfl
            have TWd : Aside _ := ⟨TW.it.quiet (Keeps.refl Nowhere wr).drew⟩
            have COd : Aside _ := ⟨CO.it.quiet (Keeps.refl Nowhere wr).drew⟩
            clear TW CO
            go_upto_region 26 with fail
            go_region_held_law (fun w' => w'.cell? ⟨bo, 2, none⟩ = some (.int .i64 op.n)) (with_reducible first | exact drew_cell e2 | exact g5 | exact g6) (first | (go_at_call 30; refine (two_drop_b t5.it op.n).mono ?_; rintro e w6 ⟨rfl, ⟨own6, t6', h6⟩, k6⟩; have t6 : Aside _ := ⟨t6'⟩; have c6 : Aside _ := ⟨keepO c5.it k6 (by decide) h6⟩; have g6 : w6.cell? ⟨bo, 2, none⟩ = some (.int .i64 op.n) := (by rw [c6.it.1.cell]; rfl); clear t6' h6 k6) | (go_at_call 30; refine (two_drop_a TWd.it op.n).mono ?_; rintro e w5 ⟨rfl, ⟨own5, t5', h5⟩, k5⟩; have t5 : Aside _ := ⟨t5'⟩; have c5 : Aside _ := ⟨keepO COd.it k5 (by decide) h5⟩; have g5 : w5.cell? ⟨bo, 2, none⟩ = some (.int .i64 op.n) := (by rw [c5.it.1.cell]; rfl); clear t5' h5 k5))
            go_wp2
            go_roundw
            case rel => exact ⟨k + 1, by omega, by go_num, _, _, t6.it⟩
            case measure => simp [intOf]; omega
          by_cases k4 : op.kind = 4
          · clear CO
            go_wp2_with fail
            refine (two_clear_a TW.it).mono ?_
            rintro e w5 ⟨rfl, ⟨own5, t5', h5⟩, k5⟩
            have t5 : Aside _ := ⟨t5'⟩
            clear t5' h5 k5 TW
            go_wp2_with fail
            refine (two_clear_b t5.it).mono ?_
            rintro e w6 ⟨rfl, ⟨own6, t6', h6⟩, k6⟩
            have t6 : Aside _ := ⟨t6'⟩
            clear t6' h6 k6 t5
            go_wp2
            go_roundw
            case rel => exact ⟨k + 1, by omega, by go_num, _, _, t6.it⟩
            case measure => simp [intOf]; omega
          · clear CO
            go_wp2
            go_roundw
            case rel => exact ⟨k + 1, by omega, by go_num, _, _, TW.it⟩
            case measure => simp [intOf]; omega
    · obtain rfl : k = no := by omega
      have CW := TW.it.ra.len
      rw [iv_length] at CW
      go_wp2_with fail
      refine (lenV TW.it.ra).mono ?_
      rintro e w5 ⟨rfl, rfl⟩
      go_wp2_with fail
      refine (lenV TW.it.rb).mono ?_
      rintro e w5 ⟨rfl, rfl⟩
      go_wp2_with fail
      refine (lenV TW.it.ra).mono ?_
      rintro e w5 ⟨rfl, rfl⟩
      go_wp2_with fail
      refine (peekV TW.it.ra _).mono ?_
      rintro e w5 ⟨s5, rfl, h5', f5, k5⟩
      have T5 : Aside _ := ⟨TW.it.quiet k5⟩
      have H5 : Aside _ := ⟨h5'⟩
      clear h5' f5 k5
      go_wp2_with fail
      refine (lenV T5.it.rb).mono ?_
      rintro e w6 ⟨rfl, rfl⟩
      go_wp2_with fail
      refine (peekV T5.it.rb _).mono ?_
      rintro e w6 ⟨s6, rfl, h6', f6, k6⟩
      have T6 : Aside _ := ⟨T5.it.quiet k6⟩
      have H6 : Aside _ := ⟨h6'⟩
      have Q5 : Aside _ := ⟨H5.it.later k6 (fun _ _ x => x)⟩
      clear h6' f6 k6
      go_wp2_with fail
      rw [iv_length, Int.toNat_natCast, iv_take, List.take_length] at H6 Q5
      refine (same_eq w6 s5 s6 l (Q5.it.reads (fun _ _ x => x)) (H6.it.reads (fun _ _ x => x)) (by omega)).mono ?_
      rintro e w7 ⟨rfl, k7⟩
      have T7 : Aside _ := ⟨T6.it.quiet k7⟩
      clear k7
      go_wp2
      go_ret
      exact ⟨rfl, T7.it.ground.bel⟩
set_option maxHeartbeats 2000000 in
set_option maxRecDepth 100000 in
theorem ringBlind_bad (n : Int) (hn : n < 0 ∨ 2147483647 < n) (script looks : Value) (w : World) (t : TypeId) (p : Addr) (hc : w.cell? ⟨0, 0, none⟩ = some (.iface t (.pointer (some p)))) :
    Calls Tryd.prog 7 #[.int .i64 n, script, looks] w fun e w' => e = .returned (.bool true) ∧ Below w.heap.size w w' := by
  have HC : Aside _ := ⟨hc⟩
  clear hc
  go_enter Tryd.func7, Tryd.ntmps7
  go_wp2_with fail
  refine (fixed_ok w).mono ?_
  rintro e w1 ⟨rfl, b1⟩
  have B1 : Aside _ := ⟨b1⟩
  have c1 : Aside (w1.cell? ⟨0, 0, none⟩ = some (.iface t (.pointer (some p)))) := ⟨by rw [b1.cell (World.block_lt_of_cell? w _ HC.it)]; exact HC.it⟩
  clear b1
  go_wp2_with fail
  refine (new_bad w1 n _ c1.it hn).mono ?_
  rintro e w2 ⟨rfl, k2⟩
  have c2 : Aside (w2.cell? ⟨0, 0, none⟩ = some (.iface t (.pointer (some p)))) := ⟨by rw [k2.bel.cell (World.block_lt_of_cell? w1 _ c1.it)]; exact c1.it⟩
  have B2 : Aside _ := ⟨B1.it.trans (k2.bel.mono B1.it.size)⟩
  clear k2
  go_wp2_with fail
  refine (new_bad w2 n _ c2.it hn).mono ?_
  rintro e w3 ⟨rfl, k3⟩
  have B3 : Aside _ := ⟨B2.it.trans (k3.bel.mono B2.it.size)⟩
  clear k3
  go_wp2
  go_ret
  exact ⟨rfl, B3.it⟩

theorem ringBlind_walk {A : Nat → Addr} (n : Int) (script : Value) (ops : List OpV) (looks : Value) (ls : List Int) (w : World) (hs : Sents 127 [0] A w) (ho : OpsAt w script ops) (hl : ReadsOff Nowhere w looks (iv ls) ∧ ls.length ≤ maxLen) :
    Calls Tryd.prog 7 #[.int .i64 n, script, looks] w fun e w' => e = .returned (.bool true) ∧ Below w.heap.size w w' := by
  by_cases h : n < 0 ∨ 2147483647 < n
  · exact ringBlind_bad n h script looks w _ _ (hs.cell 0 0 rfl)
  · obtain ⟨m, rfl⟩ : ∃ m : Nat, n = m := ⟨n.toNat, by omega⟩
    exact ringBlind_good m (by omega) script looks ops ls w ho hl.1 hl.2
end Go.Proofs.YtmcnggkfejfjoaaDoor

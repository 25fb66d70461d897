/-
  RingKinds, walked.
-/
import Derived.Test.YtfhafkojcaencaaDoorKindsA
import Derived.Test.YtfhafkojcaencaaDoorOpenK
import Derived.Deep.CutBlock
namespace Go.Proofs.YtfhafkojcaencaaDoor
open Go.RowKit

/-- what the row lists -/
structure KLaid (A : Nat → Addr) (w : World) : Prop where
  r : w.cell? ⟨0, 0, none⟩ = some (.iface 74 (.pointer (some (A 0))))
  pow : PowT w
section
variable {own own' : Nat → Nat} {w w' w0 : World} {xa xb tv xv yv : Value} {b cap : Nat} {la lb ts us vs : List Int} {fc : List Value} {I : Nat → Prop}
theorem strInfoK : (Tryd.prog.info? 9).map (fun i => (i.zero, i.size, i.bytes)) = some (some (.string ByteArray.empty), 1, 16) := by kernel_rfl
/-- the op in its box, the lists forgotten -/
theorem Rk.start (h : Aside (Rk w0 xa xb cap la lb tv ts xv yv us vs b fc own w)) (cs : List Value) : ∃ own', Aside (Rk w0 xa xb cap la lb (.slice none 0 0) [] (.slice none 0 0) (.slice none 0 0) [] [] w.heap.size cs own' (w.alloc (.cells cs.toArray 34))) := by
  have k : Keeps Nowhere w (w.alloc (.cells cs.toArray 34)) := (Keeps.refl _ _).alloc _
  have sn : Sn (fun _ => False) own w (give own w.heap.size 0) (w.alloc (.cells cs.toArray 34)) := Sn.quiet k 0
  exact ⟨_, ⟨⟨ringI_sn h.it.ra sn (fun x => x), ringS_sn h.it.rb sn (fun x => x), TxO.nil _ _, ⟨.inl ⟨rfl, rfl⟩, fun k hk => by cases hk⟩, ⟨.inl ⟨rfl, rfl⟩, fun k hk => by cases hk⟩, .inr ⟨Cells.new w _ _, give_new (Nat.le_refl _)⟩, h.it.g.sn sn (fun x => x), h.it.pow, h.it.inA, fun z hz => by cases hz⟩⟩⟩
/-- texts = append(texts, ..) -/
theorem Rk.app {tv' : Value} {z : Int} (h : Aside (Rk w0 xa xb cap la lb tv ts xv yv us vs b fc own w)) {w1 : World} (k1 : Keeps Nowhere w w1) (o1 : w'.ownsRow 0 9 1 tv' (ts.length + 1) (tx ts ++ [.string (ita z)])) (K : Keeps (fun b => tv.ownBlock = some b) w1 w') (b1 : ∀ b, tv'.ownBlock = some b → tv.ownBlock = some b ∨ w1.heap.size ≤ b) :
    ∃ own', Aside (Rk w0 xa xb cap la lb tv' (ts ++ [z]) xv yv us vs b fc own' w') := by
  have h1 := (Rk.quiet h k1).it
  have s : Sn (fun k => k = 3) own w1 (give own w1.heap.size 3) w' := ⟨fun _ hk => give_old hk, K.mono (fun b hb _ => h1.txt.2 b hb)⟩
  refine ⟨give own w1.heap.size 3, ⟨⟨ringI_sn h1.ra s (by decide), ringS_sn h1.rb s (by decide), ⟨?_, fun b hb => ?_⟩, rowO_sn h1.x s (by decide), rowO_sn h1.y s (by decide), h1.box.imp id (fun y => y.sn s (by decide)), h1.g.sn s (by decide), h1.pow, h1.inA, h1.inU⟩⟩⟩
  · rw [List.length_append, tx_append]
    exact o1
  · rcases b1 b hb with e | e
    · exact (give_old (owns_lt h1.txt.1 b e)).trans (h1.txt.2 b e)
    · exact give_new e
theorem Rk.ends (h : Aside (Rk w0 xa xb cap la lb tv ts xv yv us vs b fc own w)) : Aside (Rk w0 xa xb cap la lb (.slice none 0 0) [] (.slice none 0 0) (.slice none 0 0) [] [] 0 [] own w) :=
  ⟨⟨h.it.ra, h.it.rb, TxO.nil _ _, ⟨.inl ⟨rfl, rfl⟩, fun k hk => by cases hk⟩, ⟨.inl ⟨rfl, rfl⟩, fun k hk => by cases hk⟩, .inl rfl, h.it.g, h.it.pow, h.it.inA, fun z hz => by cases hz⟩⟩
theorem rowO_some {i n c : Nat} {e : TypeId} {q : Option Addr} {xs : List Value} (h : RowO own i w e (.slice q n c) xs) (j : Nat) (u : Value) (hu : xs[j]? = some u) : ∃ g, q = some ⟨g, 0, none⟩ := by
  rcases h.1 with ⟨_, rfl⟩ | ⟨g, e, _⟩
  · simp at hu
  · injection e with e _ _
    exact ⟨g, e⟩
theorem rowO_cell {i n c g : Nat} {e : TypeId} {xs : List Value} (h : RowO own i w e (.slice (some ⟨g, 0, none⟩) n c) xs) (j : Nat) (u : Value) (hu : xs[j]? = some u) : w.cell? ⟨g, j, none⟩ = some u := by
  rcases h.1 with ⟨e, _⟩ | ⟨g', e, hc⟩
  · cases e
  · injection e with e _ _
    injection e with e
    injection e with e
    subst e
    rw [hc.cell]
    exact hu
theorem Rk.xy {g1 g2 U j : Nat} {x : Int} (hx : Aside (us[j]? = some x)) (h : Aside (Rk w0 xa xb cap la lb tv ts (.slice (some ⟨g1, 0, none⟩) U U) (.slice (some ⟨g2, 0, none⟩) U U) us us b fc own w)) : w.cell? ⟨g1, j, none⟩ = some (.int .i64 x) ∧ w.cell? ⟨g2, j, none⟩ = some (.string (ita x)) :=
  ⟨rowO_cell h.it.x j _ (by simp [iv, hx.it]), rowO_cell h.it.y j _ (by simp [tx, hx.it])⟩
theorem take_oneK {l : List Int} {k : Nat} {x : Int} (hx : l[k]? = some x) : l.take (k + 1) = l.take k ++ [x] := by
  obtain ⟨h, rfl⟩ := List.getElem?_eq_some_iff.1 hx
  rw [List.take_add_one, List.getElem?_eq_getElem h]; rfl
theorem Rk.op {c0 c1 c2 c3 : Value} (h : Aside (Rk w0 xa xb cap la lb tv ts xv yv us vs b [c0, c1, c2, c3] own w)) : w.cell? ⟨b, 0, none⟩ = some c0 ∧ w.cell? ⟨b, 2, none⟩ = some c2 ∧ w.cell? ⟨b, 3, none⟩ = some c3 := by
  rcases h.it.box with h | h
  · cases h
  · exact ⟨by rw [h.1.cell]; rfl, by rw [h.1.cell]; rfl, by rw [h.1.cell]; rfl⟩
theorem Rk.op2 {c0 c1 c2 c3 : Value} (h : Aside (Rk w0 xa xb cap la lb tv ts xv yv us vs b [c0, c1, c2, c3] own w)) : w.cell? ⟨b, 2, none⟩ = some c2 := (Rk.op h).2.1
end

set_option maxRecDepth 20000 in
set_option maxHeartbeats 4000000 in
theorem ringKinds_walkU {A : Nat → Addr} (n : Int) (v : Value) (zs : List OpK) (w : World) (hs : KLaid A w) (hz : OpsKArg w v zs) : Calls Tryd.prog 3 #[.int .i64 n, v] w fun e w' => e = .returned (.bool true) ∧ Below w.heap.size w w' := by
  have FX := Aside.mk (fixed_ok w)
  have HC := Aside.mk hs.r
  have HP := Aside.mk hs.pow
  by_cases hn : n < 0 ∨ 2147483647 < n
  · clear hs hz
    go_enter Tryd.func3, Tryd.ntmps3
    go_upto_region 3 with (first | (go_at_call 4; refine FX.it.mono ?_; rintro e w1 ⟨rfl, b1⟩; have b1 := Aside.mk b1) | fail)
    have N1 := Aside.mk (Rint.new_bad w1 n _ (by rw [b1.it.cell (World.block_lt_of_cell? w _ HC.it)]; exact HC.it) hn)
    go_upto_region 4 with (first | (go_at_call 5; refine N1.it.mono ?_; rintro e w2 ⟨rfl, k2⟩; have k2 := Aside.mk k2) | fail)
    have B2 := Aside.mk (below_next b1.it k2.it b1.it.size (fun _ x _ => x.elim))
    have N2 := Aside.mk (Rstring.new_bad w2 n _ (by rw [B2.it.cell (World.block_lt_of_cell? w _ HC.it)]; exact HC.it) hn)
    go_wp2_with (first | (go_at_call 6; refine N2.it.mono ?_; rintro e w3 ⟨rfl, k3⟩; have k3 := Aside.mk k3) | fail)
    go_ret
    exact ⟨rfl, below_next B2.it k3.it B2.it.size (fun _ x _ => x.elim)⟩
  · obtain ⟨cap, rfl⟩ := Int.eq_ofNat_of_zero_le (show 0 ≤ n by omega)
    have hcap : cap ≤ 2147483647 := by omega
    obtain ⟨⟨sa, sc, rfl, hlc, hmx, hat⟩, hlen⟩ := hz
    obtain ⟨M, hM⟩ : ∃ M, Aside (M = zs.length) := ⟨_, ⟨rfl⟩⟩
    rw [← hM.it] at hlc hlen ⊢
    have HAT := Aside.mk hat
    clear hs hat hmx hn
    go_enter Tryd.func3, Tryd.ntmps3
    go_upto_region 3 with (first | (go_at_call 4; refine FX.it.mono ?_; rintro e w1 ⟨rfl, b1⟩; have b1 := Aside.mk b1) | fail)
    have N1 := Aside.mk (Rint.new_good w1 cap hcap)
    go_upto_region 4 with (first | (go_at_call 5; refine N1.it.mono ?_; rintro e w2 ⟨rfl, r2, k2⟩; have k2 := Aside.mk k2; have r2 := Aside.mk r2) | fail)
    have N2 := Aside.mk (Rstring.new_good w2 cap hcap)
    go_upto_region 5 with (first | (go_at_call 6; refine N2.it.mono ?_; rintro e w3 ⟨rfl, r3, k3⟩; have k3 := Aside.mk k3; have r3 := Aside.mk r3) | fail)
    have P0 : ∃ own, Aside (Rk w (.pointer (some ⟨w1.heap.size, 0, none⟩)) (.pointer (some ⟨w2.heap.size, 0, none⟩)) cap [] [] (.slice none 0 0) [] (.slice none 0 0) (.slice none 0 0) [] [] 0 [] own w3) := by
      have z1 : w.heap.size ≤ w1.heap.size := b1.it.size
      have z2 : w1.heap.size ≤ w2.heap.size := k2.it.size
      refine ⟨give (give (fun _ => 0) w1.heap.size 1) w2.heap.size 2, ⟨⟨?_, ?_, TxO.nil _ _, ⟨.inl ⟨rfl, rfl⟩, fun k hk => by cases hk⟩, ⟨.inl ⟨rfl, rfl⟩, fun k hk => by cases hk⟩, .inl rfl, ⟨fun k hk => ?_, ?_, ?_⟩, HP.it, fun z hz => (by cases hz), fun z hz => (by cases hz)⟩⟩⟩
      · refine (r2.it.later k3.it (fun _ _ _ x => x)).mono (fun k hk _ => ?_)
        rw [give_old hk.2, give_new (by omega)]
      · exact r3.it.mono (fun k hk _ => give_new (by omega))
      · rw [give_old (by omega), give_old (by omega)]
      · exact below_next (below_next b1.it k2.it z1 (fun _ x _ => x.elim)) k3.it (by omega) (fun _ x _ => x.elim)
      · exact Nat.le_trans (Nat.le_trans z1 z2) k3.it.size
    clear N1 N2 r2 r3 k2 k3 b1 HP HC FX
    generalize (Value.pointer (some ⟨w1.heap.size, 0, none⟩)) = xa at P0 ⊢
    generalize (Value.pointer (some ⟨w2.heap.size, 0, none⟩)) = xb at P0 ⊢
    obtain ⟨own0, P0⟩ := P0
    go_upto_region 8 with fail
    go_loopw [55] (fun x wr => ∃ (k : Nat) (la : List Int) (own : Nat → Nat), x = .int .i64 k ∧ k ≤ M ∧ Aside (Rk w xa xb cap la la (.slice none 0 0) [] (.slice none 0 0) (.slice none 0 0) [] [] 0 [] own wr)) (fun x _ => M - (intOf x).toNat)
    case atStart => exact ⟨0, [], own0, rfl, Nat.zero_le _, P0⟩
    case round =>
      obtain ⟨k, la, own, rfl, hk, P1⟩ := hrel
      clear P0
      rcases Nat.eq_or_lt_of_le hk with e | hlt
      · subst e
        clear HAT
        go_wp2
        go_ret
        exact ⟨rfl, P1.it.g.bel⟩
      · have hx : zs[k]? = some (zs[k]'(by rw [← hM.it]; exact hlt)) := List.getElem?_eq_getElem _
        generalize zs[k]'(by rw [← hM.it]; exact hlt) = z at hx
        obtain ⟨kd, zat, zn, zsl, its⟩ := z
        obtain ⟨sb, so, cs, rfl, ⟨ecs, hR, hB⟩, _, hc⟩ := HAT.it k _ hx
        simp only [OpK.cells] at ecs hR hB
        subst ecs
        have g := P1.it.g
        have e0 := g.cell rfl ((hc 0 (by decide)).trans (by rfl))
        have e1 := g.cell rfl ((hc 1 (by decide)).trans (by rfl))
        have e2 := g.cell rfl ((hc 2 (by decide)).trans (by rfl))
        have e3 := g.cell rfl ((hc 3 (by decide)).trans (by rfl))
        rw [Nat.add_zero] at e0
        have HR := Aside.mk hR
        obtain ⟨ta, tc, rfl, hlc2, hmx2, hat2⟩ := hR
        have HIT := Aside.mk hat2
        obtain ⟨N, hN⟩ : ∃ N, Aside (N = its.length) := ⟨_, ⟨rfl⟩⟩
        rw [← hN.it] at hlc2 hB HR e3
        have i2 : (k : Int) < M := by omega
        have i3 : (0 : Int) ≤ k := by omega
        have i4 : (k : Int) ≤ 9223372036854775806 := by omega
        clear hc hx HAT g hat2 hmx2
        go_upto_region 10 with fail
        obtain ⟨own2, P2⟩ := Rk.start P1 [.int .i64 kd, .int .i64 zat, .int .i64 zn, .slice ta N tc]
        clear e0 e1 e2 e3 P1
        have ew : wr.alloc (.cells [.int .i64 kd, .int .i64 zat, .int .i64 zn, .slice ta N tc].toArray 34) = wr.alloc (.cells #[.int .i64 kd, .int .i64 zat, .int .i64 zn, .slice ta N tc] 34) := rfl
        rw [ew] at P2
        clear ew
        generalize wr.alloc (.cells #[.int .i64 kd, .int .i64 zat, .int .i64 zn, .slice ta N tc] 34) = w2 at P2 ⊢
        generalize wr.heap.size = bx at P2 ⊢
        obtain ⟨o0, o2, o3⟩ := Rk.op P2
        go_upto_region 12 with fail
        clear o0 o2 o3
        go_loopw [11, 62] (fun tv x wr => ∃ (j : Nat) (q : Option Addr) (l c : Nat) (own : Nat → Nat), tv = .slice q l c ∧ x = .int .i64 j ∧ j ≤ N ∧ Aside (Rk w xa xb cap la la (.slice q l c) (its.take j) (.slice none 0 0) (.slice none 0 0) [] [] bx [.int .i64 kd, .int .i64 zat, .int .i64 zn, .slice ta N tc] own wr)) (fun _ x _ => N - (intOf x).toNat)
        case atStart => exact ⟨0, none, 0, 0, own2, rfl, rfl, Nat.zero_le _, P2⟩
        case round =>
          obtain ⟨j, q, l, c, own3, rfl, rfl, hj, P3⟩ := hrel
          clear P2
          rcases Nat.eq_or_lt_of_le hj with e | hjt
          · subst e
            clear HIT
            rw [List.take_of_length_le (by rw [← hN.it]; exact Nat.le_refl _)] at P3
            obtain ⟨o0, o2, o3⟩ := Rk.op P3
            go_upto_block 4 with fail
            go_cut [14, 15] from 56 to 181 (fun xv yv wx => ∃ (lb us : List Int) (q1 q2 : Option Addr) (U : Nat) (own : Nat → Nat), xv = .slice q1 U U ∧ yv = .slice q2 U U ∧ Aside (us.length = U ∧ U ≤ 2147483647) ∧ Aside (Rk w xa xb cap lb lb (.slice q l c) its (.slice q1 U U) (.slice q2 U U) us us bx [.int .i64 kd, .int .i64 zat, .int .i64 zn, .slice ta j tc] own wx))
            case first =>
              as_aux_lemma =>
                have hB2 : its.length ≤ 1048576 := by rw [← hN.it]; exact hB
                have HB2 := Aside.mk hB2
                clear hB2
                have P3d := Rk.quiet P3 (Keeps.refl _ _).drew
                by_cases k1 : kd = 1
                · subst k1
                  go_wp2_with (first
                    | (go_at_call 8; with_reducible refine (rk_pushA P3 _ its HR HB2.it).mono ?_; rintro e w6 ⟨own6, rfl, P6⟩)
                    | (go_at_call 9; with_reducible refine (rk_pushB P6 HB2.it).mono ?_; rintro e w7 ⟨own7, rfl, P7⟩)
                    | fail)
                  go_meet
                  case rel => exact ⟨_, [], none, none, 0, own7, rfl, rfl, ⟨rfl, by decide⟩, P7⟩
                · have k1' : (kd == 1) = false := by simpa using k1
                  by_cases k2 : kd = 2
                  · subst k2
                    obtain ⟨U, hU⟩ : ∃ U, Aside ((la.take zn.toNat).length = U) := ⟨_, ⟨rfl⟩⟩
                    have HUb : Aside (U ≤ 2147483647) := ⟨by have h1 := P3.it.ra.len; rw [iv_length] at h1; have h2 := hU.it; rw [List.length_take] at h2; omega⟩
                    have PA := Aside.mk (rk_popA P3d zn)
                    have PB := Aside.mk (fun own W xv us h => rk_popB (w0 := w) (xa := xa) (xb := xb) (cap := cap) (la := la.drop zn.toNat) (lb := la) (tv := .slice q l c) (ts := its) (xv := xv) (yv := .slice none 0 0) (us := us) (vs := []) (b := bx) (fc := [.int .i64 2, .int .i64 zat, .int .i64 zn, .slice ta j tc]) (own := own) (w := W) h zn)
                    simp only [hU.it] at PA PB
                    go_upto_region 24 with fail
                    go_region_held_law (fun w' => w'.cell? ⟨bx, 2, none⟩ = some (.int .i64 zn)) (exact Rk.op2 (by with_reducible assumption)) (first
                      | (go_at_call 10; with_reducible refine PA.it.mono ?_; rintro e w6 ⟨q6, own6, rfl, P6⟩)
                      | (go_at_call 11; with_reducible refine (PB.it _ _ _ _ P6).mono ?_; rintro e w7 ⟨q7, own7, rfl, P7⟩))
                    go_wp2
                    go_meet
                    case rel => exact ⟨_, _, q6, q7, U, own7, rfl, rfl, ⟨hU.it, HUb.it⟩, P7⟩
                  · have k2' : (kd == 2) = false := by simpa using k2
                    by_cases k3 : kd = 3
                    · subst k3
                      clear k1' k2'
                      have PA := Aside.mk (rk_dropA P3d zn)
                      have PB := Aside.mk (fun own W h => rk_dropB (w0 := w) (xa := xa) (xb := xb) (cap := cap) (la := la.drop zn.toNat) (lb := la) (tv := .slice q l c) (ts := its) (xv := .slice none 0 0) (yv := .slice none 0 0) (us := []) (vs := []) (b := bx) (fc := [.int .i64 3, .int .i64 zat, .int .i64 zn, .slice ta j tc]) (own := own) (w := W) h zn)
                      generalize (Nat.min zn.toNat la.length) = D at PA PB
                      go_upto_region 26 with fail
                      go_region_held_law (fun w' => w'.cell? ⟨bx, 2, none⟩ = some (.int .i64 zn)) (exact Rk.op2 (by with_reducible assumption)) (first
                        | (go_at_call 12; with_reducible refine PA.it.mono ?_; rintro e w6 ⟨own6, rfl, P6⟩)
                        | (go_at_call 13; with_reducible refine (PB.it _ _ P6).mono ?_; rintro e w7 ⟨own7, rfl, P7⟩))
                      go_wp2
                      go_meet
                      case rel => exact ⟨_, [], none, none, 0, own7, rfl, rfl, ⟨rfl, by decide⟩, P7⟩
                    · have k3' : (kd == 3) = false := by simpa using k3
                      by_cases k6 : kd = 6
                      · subst k6
                        clear k1' k2' k3'
                        have PA := Aside.mk (rk_atA P3 zn)
                        have PB := Aside.mk (fun W h => rk_atB (w0 := w) (xa := xa) (xb := xb) (cap := cap) (la := la) (lb := la) (tv := .slice q l c) (ts := its) (xv := .slice none 0 0) (yv := .slice none 0 0) (us := []) (vs := []) (b := bx) (fc := [.int .i64 6, .int .i64 zat, .int .i64 zn, .slice ta j tc]) (own := own3) (w := W) h zn)
                        obtain ⟨r, hr⟩ : ∃ r, Aside (atZ la zn = r) := ⟨_, ⟨rfl⟩⟩
                        rw [hr.it] at PA
                        simp only [hr.it] at PB
                        cases r with
                        | none =>
                          simp only [Option.getD_none, Option.isSome_none, Option.map_none] at PA PB
                          go_upto_region 30 with (first | (go_at_call 14; with_reducible refine PA.it.mono ?_; rintro e w6 ⟨rfl, P6⟩) | fail)
                          have o2 := Rk.op2 P6
                          go_upto_region 31 with (first | (go_at_call 15; with_reducible refine (PB.it _ P6).mono ?_; rintro e w7 ⟨rfl, P7⟩) | fail)
                          go_wp2
                          go_meet
                          case rel => exact ⟨_, [], none, none, 0, own3, rfl, rfl, ⟨rfl, by decide⟩, P7⟩
                        | some z =>
                          have hz := atZ_in hr.it P3.it.inA
                          simp only [Option.getD_some, Option.isSome_some, Option.map_some] at PA PB
                          go_upto_region 30 with (first | (go_at_call 14; with_reducible refine PA.it.mono ?_; rintro e w6 ⟨rfl, P6⟩) | fail)
                          have o2 := Rk.op2 P6
                          go_upto_region 31 with (first | (go_at_call 15; with_reducible refine (PB.it _ P6).mono ?_; rintro e w7 ⟨rfl, P7⟩) | fail)
                          have IT := Aside.mk (rk_itoa P7 z hz)
                          go_wp2_with (first | (go_at_call 7; with_reducible refine IT.it.mono ?_; rintro e w8 ⟨rfl, P8⟩) | fail)
                          go_meet
                          case rel => exact ⟨_, [], none, none, 0, own3, rfl, rfl, ⟨rfl, by decide⟩, P8⟩
                      · have k6' : (kd == 6) = false := by simpa using k6
                        obtain ⟨U, hU⟩ : ∃ U, Aside ((la.take zn.toNat).length = U) := ⟨_, ⟨rfl⟩⟩
                        have HUb : Aside (U ≤ 2147483647) := ⟨by have h1 := P3.it.ra.len; rw [iv_length] at h1; have h2 := hU.it; rw [List.length_take] at h2; omega⟩
                        have PA := Aside.mk (rk_peekA P3d zn)
                        have PB := Aside.mk (fun own W xv us h => rk_peekB (w0 := w) (xa := xa) (xb := xb) (cap := cap) (la := la) (lb := la) (tv := .slice q l c) (ts := its) (xv := xv) (yv := .slice none 0 0) (us := us) (vs := []) (b := bx) (fc := [.int .i64 kd, .int .i64 zat, .int .i64 zn, .slice ta j tc]) (own := own) (w := W) h zn)
                        simp only [hU.it] at PA PB
                        clear k1 k2 k3 k6
                        go_upto_region 19 with fail
                        go_region_held_law (fun w' => w'.cell? ⟨bx, 2, none⟩ = some (.int .i64 zn)) (exact Rk.op2 (by with_reducible assumption)) (first
                          | (go_at_call 16; with_reducible refine PA.it.mono ?_; rintro e w6 ⟨q6, own6, rfl, P6⟩)
                          | (go_at_call 17; with_reducible refine (PB.it _ _ _ _ P6).mono ?_; rintro e w7 ⟨q7, own7, rfl, P7⟩))
                        go_wp2
                        go_meet
                        case rel => exact ⟨_, _, q6, q7, U, own7, rfl, rfl, ⟨hU.it, HUb.it⟩, P7⟩
            case rest =>
              clear P3 o0 o2 o3
              obtain ⟨lb, us, q1, q2, U, own4, rfl, rfl, hU, P4⟩ := hcut
              have hU63 : (U : Int) ≤ 9223372036854775807 := by have := hU.it.2; omega
              have hU := Aside.mk hU.it.1
              go_upto_region 36 with (first
                | (go_at_call 18; with_reducible refine (rk_lenA P4).mono ?_; rintro e w6 ⟨rfl, rfl⟩)
                | (go_at_call 19; with_reducible refine (rk_lenB P4).mono ?_; rintro e w7 ⟨rfl, rfl⟩)
                | fail)
              go_loopw [167] (fun x wr => ∃ (i : Nat), x = .int .i64 i ∧ i ≤ U ∧ Aside (Rk w xa xb cap lb lb (.slice q l c) its (.slice q1 U U) (.slice q2 U U) us us bx [.int .i64 kd, .int .i64 zat, .int .i64 zn, .slice ta j tc] own4 wr)) (fun x _ => U - (intOf x).toNat)
              case atStart => exact ⟨0, rfl, Nat.zero_le _, P4⟩
              case round =>
                obtain ⟨i, rfl, hi, P5⟩ := hrel
                clear P4
                rcases Nat.eq_or_lt_of_le hi with e | hit
                · subst e
                  go_wp2
                  go_roundw
                  case rel => exact ⟨k + 1, lb, own4, by go_num, hlt, Rk.ends P5⟩
                  case measure => simp [intOf]; omega
                · have hx : us[i]? = some (us[i]'(by rw [hU.it]; exact hit)) := List.getElem?_eq_getElem _
                  generalize us[i]'(by rw [hU.it]; exact hit) = x at hx
                  have hb := P5.it.inU x (List.mem_of_getElem? hx)
                  obtain ⟨g1, rfl⟩ := rowO_some P5.it.x i (.int .i64 x) (by simp [iv, hx])
                  obtain ⟨g2, rfl⟩ := rowO_some P5.it.y i (.string (ita x)) (by simp [tx, hx])
                  have HX := Aside.mk hx
                  have m2 : (i : Int) < U := by omega
                  have m3 : (0 : Int) ≤ i := by omega
                  have m4 : (i : Int) ≤ 9223372036854775806 := by omega
                  have P5d := Rk.quiet P5 (Keeps.refl _ _).drew
                  have IT := Aside.mk (rk_itoa P5d x hb)
                  clear hx hb
                  go_upto_region 38 with fail
                  go_region_held_law (fun w' => w'.cell? ⟨g1, i, none⟩ = some (.int .i64 x) ∧ w'.cell? ⟨g2, i, none⟩ = some (.string (ita x))) (exact Rk.xy HX (by with_reducible assumption)) (first
                    | (go_at_call 7; with_reducible refine IT.it.mono ?_; rintro e w6 ⟨rfl, P6⟩))
                  go_wp2
                  go_roundw
                  case rel => exact ⟨i + 1, by go_num, hit, P6⟩
                  case measure => simp [intOf]; omega
          · have hx : its[j]? = some (its[j]'(by rw [← hN.it]; exact hjt)) := List.getElem?_eq_getElem _
            generalize its[j]'(by rw [← hN.it]; exact hjt) = x at hx
            obtain ⟨hb, tb, tO, rfl, hc⟩ := HIT.it j x hx
            have c0 := P3.it.g.cell rfl hc
            have HX := Aside.mk (take_oneK hx)
            have HLn : Aside ((its.take j).length = j) := ⟨by rw [List.length_take, ← hN.it]; omega⟩
            have j2 : (j : Int) < N := by omega
            have j3 : (0 : Int) ≤ j := by omega
            have j4 : (j : Int) ≤ 9223372036854775806 := by omega
            have IT := Aside.mk (rk_itoa P3 x hb)
            have b8 := Aside.mk (show ((its.take j).length + 1) * 16 ≤ 140737488355328 by rw [HLn.it]; omega)
            have b9 := Aside.mk (show (its.take j).length + 1 ≤ maxLen by rw [HLn.it]; unfold maxLen; omega)
            clear hc hx HIT hb
            go_wp2_with (first
              | (go_at_call 7; refine IT.it.mono ?_; rintro e w4 ⟨rfl, P4⟩; have K1 := Aside.mk ((Keeps.refl Nowhere w4).alloc (.cells #[.string (ita x)] 9)); have R1 := Aside.mk (readsK_new w4 9 [.string (ita x)]))
              | (refine wpList_appendR rfl _ _ 35 rfl 9 _ 1 16 Tryd.underlying35 strInfoK rfl (by decide) w4 K1.it 0 _ (its.take j).length _ P4.it.txt.1 _ 1 [.string (ita x)] R1.it (by simp [Value.oneCell']) b8.it b9.it (Nat.zero_le _) rfl rfl ?_; rintro u w5 O5 K5 B5; obtain ⟨q5, l5, c5, e⟩ := owns_shapeK O5.it; subst e)
              | fail)
            obtain ⟨own5, P5⟩ := Rk.app P4 K1.it O5.it K5.it B5.it
            rw [← HX.it] at P5
            go_roundw
            case rel => exact ⟨j + 1, q5, l5, c5, own5, rfl, by go_num, hjt, P5⟩
            case measure => simp [intOf]; omega
end Go.Proofs.YtfhafkojcaencaaDoor

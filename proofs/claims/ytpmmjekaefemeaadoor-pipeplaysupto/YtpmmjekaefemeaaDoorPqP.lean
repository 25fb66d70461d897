/-
  culvertlaw19.PipePlays
-/
import Derived.Test.YtpmmjekaefemeaaDoorPqI
import Derived.Deep.DeepCutAuto
namespace Go.Proofs.YtpmmjekaefemeaaDoor
open Go.RowKit

/-- behind a round's step: the document's next in its box -/
def Nx19 (A : Nat → Addr) (w0 : World) (i p : Nat) (wb m nb : Nat) (v2 : Value) (G2 : Nat) (cut2 : Bool) (W : World) : Prop := ∃ own ALL vb Gb cb, ALL.length ≤ m ∧ Pz A w0 own W i p v2 ALL G2 cut2 wb vb Gb cb [(nb, [v2, .int .i64 G2, .bool cut2])]

set_option maxRecDepth 20000 in
set_option maxHeartbeats 4000000 in
theorem pipePlays_walkU {A : Nat → Addr} (s : Value) (zs : List OpV19) (w : World) (hs : Sents 93 codeVars A w) (hz : Ops19ArgU w s zs) :
    Calls Tryd.prog 3 #[s] w fun e w' => e = .returned (.bool true) ∧ Below w.heap.size w w' := by
  obtain ⟨hz20, hz⟩ := hz
  have HZ := Aside.mk hz
  obtain ⟨a, c, rfl, hzc, hcm, _⟩ := hz
  obtain ⟨N, hN⟩ : ∃ N, zs.length = N := ⟨_, rfl⟩
  have HN := Aside.mk hN
  rw [hN] at hzc hz20 ⊢
  have WK := Aside.mk (wakes19 w)
  have HS := Aside.mk hs
  have hNm : (N : Int) ≤ 1048576 := by omega
  clear hs hN
  go_enter Tryd.func3, Tryd.ntmps3
  go_upto_region 3 with (go_at_call 8; refine WK.it.mono ?_; rintro e w1 ⟨rfl, K1⟩)
  clear WK
  have NW := Aside.mk (new19 w1 (fun _ => 0) 10)
  go_upto_region 4 with (go_at_call 9; refine NW.it.mono ?_; clear NW; rintro e w2 ⟨p, own2, rfl, X2⟩)
  obtain ⟨wb, hwb⟩ : ∃ wb, w2.heap.size = wb := ⟨_, rfl⟩
  obtain ⟨own4, P4⟩ : ∃ own4, Aside (Pz A w own4 (w2.alloc (dzc (.slice none 0 0) 0 false)) 10 p (.slice none 0 0) [] 0 false wb (.slice none 0 0) 0 false []) := by
    have G1 := (OnG.start HS.it).sn (I := fun _ => False) (Sn.same K1.it) (fun x => x)
    have s3 : Sn (fun _ => False) own2 w2 (give own2 w2.heap.size 8) (w2.alloc (dzc (.slice none 0 0) 0 false)) := Sn.quiet ((Keeps.refl _ _).alloc _) 8
    exact ⟨_, ⟨(G1.sn X2.it.2 (fun x => x)).sn s3 (fun x => x), ⟨X2.it.1.sn s3 (fun x => x) (fun x => x) (fun x => x), ⟨(RowB.nil own2 0 _).rd, fun g hg => by simp [Value.ownBlock] at hg⟩, Nat.le_refl _⟩, ⟨by rw [← hwb]; exact Cells.new w2 _ _, give_new (by rw [← hwb]; exact Nat.le_refl _)⟩, fun y hy => by cases hy⟩⟩
  go_upto_region 5 with fail
  clear hwb X2
  generalize (w2.alloc (dzc (.slice none 0 0) 0 false)) = W4 at P4 ⊢
  go_wp2_with fail
  go_loopw [5, 6, 7, 8, 9] (fun iv _ _ _ _ wr => ∃ (j : Nat) (v : Value) (ALL : List Int) (G : Nat) (cut : Bool) (own : Nat → Nat), iv = .int .i64 j ∧ j ≤ N ∧ Aside (ALL.length ≤ j * 1048576) ∧ Aside (Pz A w own wr 10 p v ALL G cut wb v G cut [])) (fun iv _ _ _ _ _ => N - natOf iv)
  case atStart => exact ⟨0, _, [], 0, false, own4, rfl, Nat.zero_le _, ⟨Nat.zero_le _⟩, P4⟩
  case round =>
    clear P4
    obtain ⟨j, v, ALL, G, cut, own, rfl, hj, hA, P⟩ := hrel
    obtain ⟨va, vc, hvv⟩ := P.it.t.slc
    subst hvv
    obtain ⟨nl, hnl⟩ : ∃ nl, ALL.length = nl := ⟨_, rfl⟩
    have HNL := Aside.mk hnl
    rw [hnl] at P
    clear hnl
    rcases Nat.eq_or_lt_of_le hj with rfl | hlt
    · go_wp2_with fail
      go_ret
      exact ⟨rfl, P.it.g.g.bel⟩
    · obtain ⟨z, hz⟩ : ∃ z, zs[j]? = some z := ⟨_, List.getElem?_eq_getElem (by rw [HN.it]; exact hlt)⟩
      have hzw := HZ.it
      rw [HN.it] at hzw
      obtain ⟨b, o, rfl, OC, hrd, hnb⟩ := op_cells (by rw [HN.it]; exact hzw) hz
      clear hz hzw
      obtain ⟨kd, sl, ns, n⟩ := z
      simp only at OC hrd hnb
      obtain ⟨sa, sc, hsl⟩ := hrd.shape
      subst hsl
      obtain ⟨B, hB⟩ : ∃ B, ns.length = B := ⟨_, rfl⟩
      have HB := Aside.mk hB
      have HRD := Aside.mk hrd
      rw [hB] at OC HRD hnb
      clear hB hrd
      have hm : Aside (ALL.length + ns.length ≤ 2199023255551 ∧ ALL.length + ns.length ≤ (j + 1) * 1048576) := ⟨by have := hA.it; have := HB.it; omega⟩
      have Zd := Aside.mk (P.it.quiet (Keeps.refl _ _).drew)
      have Nd := Aside.mk ((P.it.box (.slice none 0 0) (.int .i64 0) (.bool false)).quiet (Keeps.refl _ _).drew)
      have hnw : wr.heap.size ≠ wb := by have := P.it.c.1.lt; omega
      have i1 : (j : Int) ≤ 9223372036854775806 := by omega
      clear P
      go_upto_region 8 with fail
      go_cut [6, 7] (fun vn vo wx => ∃ (nb : Nat) (qa : Option Addr) (ql qc G2 : Nat) (cut2 : Bool), vn = ptr nb ∧ vo = .bool true ∧ Aside (Nx19 A w 10 p wb ((j + 1) * 1048576) nb (.slice qa ql qc) G2 cut2 wx))
      case first =>
        go_region_held3 (fun w' => w'.cell? ⟨wb, 0, none⟩ = some (.slice va nl vc) ∧ w'.cell? ⟨wb, 1, none⟩ = some (.int .i64 G) ∧ w'.cell? ⟨wb, 2, none⟩ = some (.bool cut) ∧ w'.cell? ⟨b, o + j * 3, none⟩ = some (.int .i64 kd) ∧ w'.cell? ⟨b, o + j * 3 + 1, none⟩ = some (.slice sa B sc) ∧ w'.cell? ⟨b, o + j * 3 + 2, none⟩ = some (.int .i64 n)) (first | with_reducible exact Pz.h6 OC (by with_reducible assumption) | with_reducible exact Pz.h6A OC (by with_reducible assumption) | with_reducible exact Pz.h6S (i := 10) (by decide) hnw OC (by with_reducible assumption)) (first
          | (go_at_call 10; with_reducible refine (pz_step (by decide) Zd HRD.it hm.it.1).mono ?_; rintro e w6 ⟨qa, ql, qc, G2, cut2, own6, rfl, X6⟩; obtain ⟨A6, hA6, P6'⟩ := X6.it; have P6 := Aside.mk P6'; clear P6')
          | (go_at_call 10; with_reducible refine (pz_step (by decide) Nd HRD.it hm.it.1).mono ?_; rintro e w7 ⟨qa, ql, qc, G2, cut2, own6, rfl, X6⟩; obtain ⟨A6, hA6, P7'⟩ := X6.it; have P7 := Aside.mk P7'; clear P7'; obtain ⟨r0, r1, r2, f0, f1, f2⟩ := Pz.res P7)
          | fail)
        all_goals go_wp2_with fail
        all_goals go_meet
        all_goals first
          | exact ⟨_, qa, ql, qc, G2, cut2, rfl, rfl, ⟨_, A6, _, _, _, Nat.le_trans hA6 hm.it.2, P6.it.box (.slice qa ql qc) (.int .i64 G2) (.bool cut2)⟩⟩
          | exact ⟨_, qa, ql, qc, G2, cut2, rfl, rfl, ⟨_, A6, _, _, _, Nat.le_trans hA6 hm.it.2, P7.it.put (by decide) hnw⟩⟩
      case rest =>
        obtain ⟨nb, qa, ql, qc, G2, cut2, rfl, rfl, NX⟩ := hcut
        clear Zd Nd hnw
        obtain ⟨own3, A3, vb, Gb, cb, hA3, Z3⟩ := NX.it
        have Z3 := Aside.mk Z3
        clear NX
        obtain ⟨m0, m1, m2, _⟩ := Pz.res Z3
        obtain ⟨u0, u1, u2, u3, u4, u5⟩ := Z3.it.cells
        have W3 := Aside.mk (Z3.it.write (by decide))
        have HA3 := Aside.mk hA3
        go_upto_region 12 with fail
        clear m0 m1 m2 u0 u1 u2 u3 u4 u5
        generalize (((wc.setCell ⟨wb, 0, none⟩ (.slice qa ql qc)).setCell ⟨wb, 1, none⟩ (.int .i64 G2)).setCell ⟨wb, 2, none⟩ (.bool cut2)) = W5 at W3 ⊢
        obtain ⟨u0, u1, u2, u3, u4, u5⟩ := W3.it.cells
        have ST := Aside.mk (pz_len (by decide) W3 (by have := HA3.it; omega))
        go_upto_region 13 with (first
          | (go_at_call 10; refine ST.it.mono ?_; clear ST; rintro e w8 ⟨own8, rfl, P8⟩)
          | fail)
        have P9 := Aside.mk (P8.it.quiet ((Keeps.refl _ _).alloc (dzc (.slice qa ql qc) G2 cut2)))
        clear P8 W3 u0 u1 u2 u3 u4 u5
        go_wp2_with fail
        go_roundw
        case rel => exact ⟨j + 1, _, A3, G2, cut2, own8, by go_num, by omega, HA3, P9⟩
        case measure => simp [natOf]; omega
end Go.Proofs.YtpmmjekaefemeaaDoor

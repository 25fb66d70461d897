/-
  culvertlaw24: tells, of a history or of a nil one
-/
import Derived.Test.YtambdgcogldbgaaDoorTsA
import Derived.Deep.RegionHeldLaw
namespace Go.Proofs.YtambdgcogldbgaaDoor
open Go.RowKit Go.Maps

variable {A : Nat → Addr} {w w' W w1 w2 : World} {own own' : Nat → Nat} {v hv : Value} {U : Ds} {I : Nat → Prop} {k z : Int} {d : Dr} {T p i : Nat} {ns : List Int} {sl : Value} {rb : Nat} {L : Hs}
/-- a history, or a nil one -/
def Ho (own : Nat → Nat) (i : Nat) (w : World) (hv : Value) (T : Nat) (L : Hs) : Prop := (∃ p, hv = ptr p ∧ TrO own i w p T L) ∨ (hv = .pointer none ∧ L = [])
theorem Ho.sn (h : Ho own i w hv T L) (s : Sn I own w own' w') (hi : ¬ I i) : Ho own' i w' hv T L := by
  rcases h with ⟨p, e, h⟩ | h
  · exact .inl ⟨p, e, h.sn s hi⟩
  · exact .inr h
theorem Ho.quiet (h : Ho own i w hv T L) (hk : Keeps Nowhere w w') : Ho own i w' hv T L := h.sn (I := fun _ => False) (Sn.same hk) (fun x => x)
theorem Ho.ok (h : Ho own i w hv T L) : TOk T L := by
  rcases h with ⟨p, _, h⟩ | ⟨_, rfl⟩
  · exact h.ok
  · exact TOk.nil T
theorem ho_past (h : Ho own i w hv T L) (hk : Zw k) : Calls Tryd.prog 18 #[hv, .int .i64 k] w fun e w' => e = .returned (.tuple #[pastV (got L k), .bool (tget L k).isSome]) ∧ Aside (Keeps Nowhere w w') := by
  rcases h with ⟨p, rfl, h⟩ | ⟨rfl, rfl⟩
  · exact past_at h hk
  · exact past_nil w hk
theorem ho_rest (h : Ho own i w hv T L) (hk : Zw k) (hT : T ≤ 70368744177664) : Calls Tryd.prog 14 #[hv, .int .i64 k] w fun e w' => ∃ q n c, e = .returned (.slice q n c) ∧ Aside (OwnB w.heap.size w' (.slice q n c) (got L k).rest) ∧ Aside (Keeps Nowhere w w') := by
  rcases h with ⟨p, rfl, h⟩ | ⟨rfl, rfl⟩
  · refine (restH_at h hk hT).mono ?_
    rintro e w' ⟨q, c, rfl, R, K⟩
    exact ⟨q, _, c, rfl, R, K⟩
  · refine (restH_nil w hk).mono ?_
    rintro e w' ⟨q, c, rfl, R, K⟩
    exact ⟨q, 0, c, rfl, R, K⟩
theorem ho_keys (h : Ho own i w hv T L) : Calls Tryd.prog 15 #[hv] w fun e w' => ∃ v, e = .returned v ∧ Aside (RwI w w' v (tk L)) ∧ Aside (Keeps Nowhere w w') := by
  rcases h with ⟨p, rfl, h⟩ | ⟨rfl, rfl⟩
  · exact keys_at h
  · exact keys_nil w
theorem ho_text (h : Ho own i w hv T L) (hp : PowT w) (hT : T ≤ 70368744177664) (hn : L.length ≤ 1073741824) : Calls Tryd.prog 20 #[hv] w fun e w' => e = .returned (.string (str (textT L))) ∧ Aside (Keeps Nowhere w w') := by
  rcases h with ⟨p, rfl, h⟩ | ⟨rfl, rfl⟩
  · exact text_at h hp hT hn
  · exact text_nil w
theorem cells4 {b wl rd : Nat} {cl en : Bool} (C1 : Aside (Cells w1 b 53 [.int .i64 wl, .int .i64 rd, .bool cl, .bool en])) (hk : Keeps Nowhere w1 w) : w.cell? ⟨b, 0, none⟩ = some (.int .i64 wl) ∧ w.cell? ⟨b, 1, none⟩ = some (.int .i64 rd) ∧ w.cell? ⟨b, 2, none⟩ = some (.bool cl) ∧ w.cell? ⟨b, 3, none⟩ = some (.bool en) := by
  have h := C1.it.later hk (fun x => x)
  exact ⟨by rw [h.cell]; rfl, by rw [h.cell]; rfl, by rw [h.cell]; rfl, by rw [h.cell]; rfl⟩
theorem cells8 {b c wl rd : Nat} {bx : Nat} {cl en : Bool} (C1 : Aside (Cells w1 b 53 [.int .i64 wl, .int .i64 rd, .bool cl, .bool en])) (C2 : Aside (Cells w1 c 53 [.int .i64 wl, .int .i64 rd, .bool cl, .bool en])) (C3 : Aside (Cells w1 bx 28 [v])) (hk : Aside (Keeps Nowhere w1 w)) : (w.cell? ⟨b, 0, none⟩ = some (.int .i64 wl) ∧ w.cell? ⟨b, 1, none⟩ = some (.int .i64 rd) ∧ w.cell? ⟨b, 2, none⟩ = some (.bool cl) ∧ w.cell? ⟨b, 3, none⟩ = some (.bool en)) ∧ (w.cell? ⟨c, 0, none⟩ = some (.int .i64 wl) ∧ w.cell? ⟨c, 1, none⟩ = some (.int .i64 rd) ∧ w.cell? ⟨c, 2, none⟩ = some (.bool cl) ∧ w.cell? ⟨c, 3, none⟩ = some (.bool en)) ∧ w.cell? ⟨bx, 0, none⟩ = some v := ⟨cells4 C1 hk.it, cells4 C2 hk.it, by rw [(C3.it.later hk.it (fun x => x)).cell]; rfl⟩
set_option maxRecDepth 20000 in
set_option maxHeartbeats 4000000 in
theorem tells_at (ho : Ho own i w hv T L) (h : RdD own w v U) (hm : mdl U = L) (hl : U.length ≤ 1073741824) (hz : Zw z) (hT : T ≤ 70368744177664) :
    Calls Tryd.prog 13 #[hv, .agg #[v], .int .i64 z] w fun e w' => e = .returned (.bool true) ∧ Aside (Keeps Nowhere w w') := by
  have H := Aside.mk h
  have HO := Aside.mk ho
  have HM := Aside.mk hm
  have HZ := Aside.mk hz
  have ok := ho.ok
  have OK := Aside.mk ok
  have hg := mdl_got U z
  have hkk := dgot_k U z
  have hu := h.got z
  have hkn : (tget L z).isSome = (dget U z).isSome := by rw [← hm, mdl_get, Option.isSome_map]
  have hun : (dget U z).isSome = false → got L z = rc0 := fun e => by rw [← hm]; unfold got; rw [mdl_get]; cases hd : dget U z with | none => rfl | some d => rw [hd] at e; cases e
  rw [hm] at hg
  obtain ⟨kn, hknn⟩ : ∃ kn, (dget U z).isSome = kn := ⟨_, rfl⟩
  rw [hknn] at hkn hun
  obtain ⟨d, hd⟩ : ∃ d, dgot U z = d := ⟨_, rfl⟩
  rw [hd] at hg hu hkk
  obtain ⟨W1, hW1⟩ : ∃ W1, w.alloc (.cells #[v] 28) = W1 := ⟨_, rfl⟩
  have K1 : Aside (Keeps Nowhere w W1) := ⟨by rw [← hW1]; exact (Keeps.refl _ _).alloc _⟩
  obtain ⟨bx, hbx⟩ : ∃ bx, w.heap.size = bx := ⟨_, rfl⟩
  have C1 : Aside (Cells W1 bx 28 [v]) := ⟨by rw [← hW1, ← hbx]; exact Cells.new w _ _⟩
  have OF := Aside.mk (dOf (h.quiet K1.it) (by omega) z)
  rw [hd, hknn] at OF
  obtain ⟨dk, du, dr⟩ := d
  obtain ⟨uq, uc, hdu⟩ := hu.sl
  simp only at hdu hg hkk hu
  subst hdu
  obtain ⟨a, c, rfl, _⟩ := h.s
  obtain ⟨ul, hul⟩ : ∃ ul, dr.wr.length = ul := ⟨_, rfl⟩
  obtain ⟨rd, hrd⟩ : ∃ rd, dr.rd = rd := ⟨_, rfl⟩
  simp only [rowV, hul, hrd] at OF
  have d1 : W1.cell? ⟨bx, 0, none⟩ = some (.slice a U.length c) := by rw [C1.it.cell]; rfl
  have HG := Aside.mk (And.intro hg (And.intro hkn (And.intro hul hrd)))
  have HUN := Aside.mk hun
  clear ho h hm ok hu hg hkn hun hd hul hrd hkk hknn hz
  go_enter Tryd.func13, Tryd.ntmps13
  go_upto_region 1 with fail
  clear hW1 hbx
  go_upto_region 2 with (first | (go_at_call 21; refine OF.it.mono ?_; rintro e w2 ⟨rfl, K2⟩) | fail)
  have CR : Aside (Cells (w2.alloc (.cells #[.int .i64 dk, .slice uq ul uc, .int .i64 rd, .bool dr.cl, .bool dr.en] 45)) w2.heap.size 45 [.int .i64 dk, .slice uq ul uc, .int .i64 rd, .bool dr.cl, .bool dr.en]) := ⟨Cells.new w2 _ _⟩
  have K3 : Aside (Keeps Nowhere W1 (w2.alloc (.cells #[.int .i64 dk, .slice uq ul uc, .int .i64 rd, .bool dr.cl, .bool dr.en] 45))) := ⟨K2.it.alloc _⟩
  obtain ⟨rb, hrb⟩ : ∃ rb, w2.heap.size = rb := ⟨_, rfl⟩
  rw [hrb] at CR ⊢
  generalize w2.alloc (.cells #[.int .i64 dk, .slice uq ul uc, .int .i64 rd, .bool dr.cl, .bool dr.en] 45) = w3 at CR K3 ⊢
  clear hrb OF d1 K2
  have PS := Aside.mk (ho_past (HO.it.quiet (K1.it.trans K3.it)) HZ.it)
  rw [← HG.it.1, HG.it.2.1] at PS
  simp only [pastV, HG.it.2.2.1, HG.it.2.2.2] at PS
  go_upto_region 3 with (first | (go_at_call 18; refine PS.it.mono ?_; rintro e w4 ⟨rfl, K4⟩) | fail)
  have CP : Aside (Cells (w4.alloc (.cells #[.int .i64 ul, .int .i64 rd, .bool dr.cl, .bool dr.en] 53)) w4.heap.size 53 [.int .i64 ul, .int .i64 rd, .bool dr.cl, .bool dr.en]) := ⟨Cells.new w4 _ _⟩
  have K5 : Aside (Keeps Nowhere w3 (w4.alloc (.cells #[.int .i64 ul, .int .i64 rd, .bool dr.cl, .bool dr.en] 53))) := ⟨K4.it.alloc _⟩
  obtain ⟨pb, hpb⟩ : ∃ pb, w4.heap.size = pb := ⟨_, rfl⟩
  rw [hpb] at CP ⊢
  generalize w4.alloc (.cells #[.int .i64 ul, .int .i64 rd, .bool dr.cl, .bool dr.en] 53) = w5 at CP K5 ⊢
  clear hpb PS K4
  have CQ : Aside (Cells (w5.alloc (.cells #[.int .i64 0, .int .i64 0, .bool false, .bool false] 53)) w5.heap.size 53 [.int .i64 0, .int .i64 0, .bool false, .bool false]) := ⟨Cells.new w5 _ _⟩
  have K6 : Aside (Keeps Nowhere w5 (w5.alloc (.cells #[.int .i64 0, .int .i64 0, .bool false, .bool false] 53))) := ⟨(Keeps.refl _ _).alloc _⟩
  obtain ⟨qb, hqb⟩ : ∃ qb, w5.heap.size = qb := ⟨_, rfl⟩
  rw [hqb] at CQ
  have hqn : Aside (bx ≠ qb ∧ rb ≠ qb ∧ pb ≠ qb ∧ w.heap.size ≤ qb) := ⟨by have h1 := (C1.it.later (K3.it.trans K5.it) (fun x => x)).lt; have h2 := (CR.it.later K5.it (fun x => x)).lt; have h3 := CP.it.lt; have h4 := ((K1.it.trans K3.it).trans K5.it).size; omega⟩
  go_upto_region 4 with fail
  generalize w5.alloc (.cells #[.int .i64 0, .int .i64 0, .bool false, .bool false] 53) = w6 at CQ K6 ⊢
  clear hqb
  cases kn with
  | false =>
    have hz0 : dr = rc0 := by rw [HG.it.1]; exact HUN.it rfl
    have CK : Aside (Cells w6 qb 53 [.int .i64 ul, .int .i64 rd, .bool dr.cl, .bool dr.en] ∧ Keeps (fun k => k = qb) w6 w6) := ⟨by
      have h1 := HG.it.2.2.1
      have h2 := HG.it.2.2.2
      rw [hz0] at h1 h2 ⊢
      subst h1 h2
      exact ⟨CQ.it, Keeps.refl _ _⟩⟩
    clear hz0
    go_upto_region 6 with fail
    have CQ7 := Aside.mk (And.left CK.it)
    have K67 := Aside.mk (And.right CK.it)
    have KN7 : Aside (Keeps Nowhere w w6) := ⟨((((K1.it.trans K3.it).trans K5.it).trans K6.it)).next K67.it (fun k e hlt => by have := hqn.it.2.2.2; omega)⟩
    have CP7 : Aside (Cells w6 pb 53 [.int .i64 ul, .int .i64 rd, .bool dr.cl, .bool dr.en]) := ⟨(CP.it.later K6.it (fun x => x)).later K67.it (fun e => hqn.it.2.2.1 e)⟩
    have C17 : Aside (Cells w6 bx 28 [.slice a U.length c]) := ⟨(((C1.it.later K3.it (fun x => x)).later K5.it (fun x => x)).later K6.it (fun x => x)).later K67.it (fun e => hqn.it.1 e)⟩
    have pe := past_eql ul rd dr.cl dr.en
    obtain ⟨ss, hss⟩ : ∃ ss, strOf (got L z).rest = ss := ⟨_, rfl⟩
    have HSS := Aside.mk hss
    have KD : Aside (Keeps Nowhere w6 (w6).drew) := ⟨(Keeps.refl _ _).drew⟩
    have RH : Aside (∀ W2, Aside (Keeps Nowhere w6 W2) → Calls Tryd.prog 14 #[hv, .int .i64 z] W2 fun e w' => ∃ q n c, e = .returned (.slice q n c) ∧ Aside (Rd w' (.slice q n c) (got L z).rest) ∧ (convert 29 9 (.slice q n c)).run Tryd.prog w' = .ok (.string ss) w' ∧ Aside (Keeps Nowhere w6 w')) := ⟨fun W2 hk => by
      refine (ho_rest (HO.it.quiet (KN7.it.trans hk.it)) HZ.it hT).mono ?_
      rintro e w' ⟨q, n, c, rfl, R, K⟩
      have rd := OwnB.rd R.it
      exact ⟨q, n, c, rfl, ⟨rd⟩, by rw [← HSS.it]; exact rd_conv rd, ⟨hk.it.trans K.it⟩⟩⟩
    have RG : Aside (∀ W2, Aside (Keeps Nowhere w6 W2) → Calls Tryd.prog 7 #[.agg #[.slice a U.length c], .int .i64 z] W2 fun e w' => ∃ q n c, e = .returned (.slice q n c) ∧ (convert 29 9 (.slice q n c)).run Tryd.prog w' = .ok (.string ss) w' ∧ Aside (Keeps Nowhere W2 w') ∧ Aside (Keeps Nowhere w6 w')) := ⟨fun W2 hk => by
      refine (dRest (H.it.quiet (KN7.it.trans hk.it)) (by omega) (by rw [HM.it]; exact OK.it) hT z).mono ?_
      rintro e w' ⟨q, c, rfl, R, K⟩
      rw [HM.it] at R ⊢
      have rd := OwnB.rd R.it
      exact ⟨q, _, c, rfl, by rw [← HSS.it]; exact rd_conv rd, K, ⟨hk.it.trans K.it⟩⟩⟩
    clear hss
    go_region_held_law (fun W2 => (W2.cell? ⟨pb, 0, none⟩ = some (.int .i64 ul) ∧ W2.cell? ⟨pb, 1, none⟩ = some (.int .i64 rd) ∧ W2.cell? ⟨pb, 2, none⟩ = some (.bool dr.cl) ∧ W2.cell? ⟨pb, 3, none⟩ = some (.bool dr.en)) ∧ (W2.cell? ⟨qb, 0, none⟩ = some (.int .i64 ul) ∧ W2.cell? ⟨qb, 1, none⟩ = some (.int .i64 rd) ∧ W2.cell? ⟨qb, 2, none⟩ = some (.bool dr.cl) ∧ W2.cell? ⟨qb, 3, none⟩ = some (.bool dr.en)) ∧ W2.cell? ⟨bx, 0, none⟩ = some (.slice a U.length c)) (with_reducible exact cells8 CP7 CQ7 C17 (by with_reducible assumption)) (first
      | (go_at_call 7; refine (RG.it _ K13).mono ?_; rintro e w14 ⟨q14, n14, c14, rfl, CV14, KK14, K14⟩; have CVx := rd_conv (R13.it.later KK14.it.bel); rw [HSS.it] at CVx)
      | (go_at_call 14; refine (RH.it _ KD).mono ?_; rintro e w13 ⟨q13, n13, c13, rfl, R13, CV13, K13⟩)
      | fail)
    all_goals go_wp2_with fail
    all_goals go_ret
    all_goals exact ⟨rfl, ⟨KN7.it.trans K14.it⟩⟩
  | true =>
    obtain ⟨x0, x1, x2, x3⟩ := cells4 CQ (Keeps.refl _ w6)
    have f0 := CQ.it.frozen 0
    have f1 := CQ.it.frozen 1
    have f2 := CQ.it.frozen 2
    have f3 := CQ.it.frozen 3
    have CR6 := (CR.it.later K5.it (fun x => x)).later K6.it (fun x => x)
    have r1 : w6.cell? ⟨rb, 1, none⟩ = some (.slice uq ul uc) := by rw [CR6.cell]; rfl
    have r2 : w6.cell? ⟨rb, 2, none⟩ = some (.int .i64 rd) := by rw [CR6.cell]; rfl
    have r3 : w6.cell? ⟨rb, 3, none⟩ = some (.bool dr.cl) := by rw [CR6.cell]; rfl
    have r4 : w6.cell? ⟨rb, 4, none⟩ = some (.bool dr.en) := by rw [CR6.cell]; rfl
    have CK : Aside (Cells ((((w6.setCell ⟨qb, 0, none⟩ (.int .i64 ul)).setCell ⟨qb, 1, none⟩ (.int .i64 rd)).setCell ⟨qb, 2, none⟩ (.bool dr.cl)).setCell ⟨qb, 3, none⟩ (.bool dr.en)) qb 53 [.int .i64 ul, .int .i64 rd, .bool dr.cl, .bool dr.en] ∧ Keeps (fun k => k = qb) w6 ((((w6.setCell ⟨qb, 0, none⟩ (.int .i64 ul)).setCell ⟨qb, 1, none⟩ (.int .i64 rd)).setCell ⟨qb, 2, none⟩ (.bool dr.cl)).setCell ⟨qb, 3, none⟩ (.bool dr.en))) := ⟨(((CQ.it.setCell 0 (.int .i64 ul)).setCell 1 (.int .i64 rd)).setCell 2 (.bool dr.cl)).setCell 3 (.bool dr.en), ((((Keeps.refl (fun k => k = qb) w6).setCell _ _ (fun _ => rfl)).setCell _ _ (fun _ => rfl)).setCell _ _ (fun _ => rfl)).setCell _ _ (fun _ => rfl)⟩
    clear CR6
    go_upto_region 6 with fail
    clear x0 x1 x2 x3 f0 f1 f2 f3 r1 r2 r3 r4
    generalize (((w6.setCell ⟨qb, 0, none⟩ (.int .i64 ul)).setCell ⟨qb, 1, none⟩ (.int .i64 rd)).setCell ⟨qb, 2, none⟩ (.bool dr.cl)).setCell ⟨qb, 3, none⟩ (.bool dr.en) = w7 at CK ⊢
    have CQ7 := Aside.mk (And.left CK.it)
    have K67 := Aside.mk (And.right CK.it)
    have KN7 : Aside (Keeps Nowhere w w7) := ⟨((((K1.it.trans K3.it).trans K5.it).trans K6.it)).next K67.it (fun k e hlt => by have := hqn.it.2.2.2; omega)⟩
    have CP7 : Aside (Cells w7 pb 53 [.int .i64 ul, .int .i64 rd, .bool dr.cl, .bool dr.en]) := ⟨(CP.it.later K6.it (fun x => x)).later K67.it (fun e => hqn.it.2.2.1 e)⟩
    have C17 : Aside (Cells w7 bx 28 [.slice a U.length c]) := ⟨(((C1.it.later K3.it (fun x => x)).later K5.it (fun x => x)).later K6.it (fun x => x)).later K67.it (fun e => hqn.it.1 e)⟩
    have pe := past_eql ul rd dr.cl dr.en
    obtain ⟨ss, hss⟩ : ∃ ss, strOf (got L z).rest = ss := ⟨_, rfl⟩
    have HSS := Aside.mk hss
    have KD : Aside (Keeps Nowhere w7 (w7).drew) := ⟨(Keeps.refl _ _).drew⟩
    have RH : Aside (∀ W2, Aside (Keeps Nowhere w7 W2) → Calls Tryd.prog 14 #[hv, .int .i64 z] W2 fun e w' => ∃ q n c, e = .returned (.slice q n c) ∧ Aside (Rd w' (.slice q n c) (got L z).rest) ∧ (convert 29 9 (.slice q n c)).run Tryd.prog w' = .ok (.string ss) w' ∧ Aside (Keeps Nowhere w7 w')) := ⟨fun W2 hk => by
      refine (ho_rest (HO.it.quiet (KN7.it.trans hk.it)) HZ.it hT).mono ?_
      rintro e w' ⟨q, n, c, rfl, R, K⟩
      have rd := OwnB.rd R.it
      exact ⟨q, n, c, rfl, ⟨rd⟩, by rw [← HSS.it]; exact rd_conv rd, ⟨hk.it.trans K.it⟩⟩⟩
    have RG : Aside (∀ W2, Aside (Keeps Nowhere w7 W2) → Calls Tryd.prog 7 #[.agg #[.slice a U.length c], .int .i64 z] W2 fun e w' => ∃ q n c, e = .returned (.slice q n c) ∧ (convert 29 9 (.slice q n c)).run Tryd.prog w' = .ok (.string ss) w' ∧ Aside (Keeps Nowhere W2 w') ∧ Aside (Keeps Nowhere w7 w')) := ⟨fun W2 hk => by
      refine (dRest (H.it.quiet (KN7.it.trans hk.it)) (by omega) (by rw [HM.it]; exact OK.it) hT z).mono ?_
      rintro e w' ⟨q, c, rfl, R, K⟩
      rw [HM.it] at R ⊢
      have rd := OwnB.rd R.it
      exact ⟨q, _, c, rfl, by rw [← HSS.it]; exact rd_conv rd, K, ⟨hk.it.trans K.it⟩⟩⟩
    clear hss
    go_region_held_law (fun W2 => (W2.cell? ⟨pb, 0, none⟩ = some (.int .i64 ul) ∧ W2.cell? ⟨pb, 1, none⟩ = some (.int .i64 rd) ∧ W2.cell? ⟨pb, 2, none⟩ = some (.bool dr.cl) ∧ W2.cell? ⟨pb, 3, none⟩ = some (.bool dr.en)) ∧ (W2.cell? ⟨qb, 0, none⟩ = some (.int .i64 ul) ∧ W2.cell? ⟨qb, 1, none⟩ = some (.int .i64 rd) ∧ W2.cell? ⟨qb, 2, none⟩ = some (.bool dr.cl) ∧ W2.cell? ⟨qb, 3, none⟩ = some (.bool dr.en)) ∧ W2.cell? ⟨bx, 0, none⟩ = some (.slice a U.length c)) (with_reducible exact cells8 CP7 CQ7 C17 (by with_reducible assumption)) (first
      | (go_at_call 7; refine (RG.it _ K13).mono ?_; rintro e w14 ⟨q14, n14, c14, rfl, CV14, KK14, K14⟩; have CVx := rd_conv (R13.it.later KK14.it.bel); rw [HSS.it] at CVx)
      | (go_at_call 14; refine (RH.it _ KD).mono ?_; rintro e w13 ⟨q13, n13, c13, rfl, R13, CV13, K13⟩)
      | fail)
    all_goals go_wp2_with fail
    all_goals go_ret
    all_goals exact ⟨rfl, ⟨KN7.it.trans K14.it⟩⟩
end Go.Proofs.YtambdgcogldbgaaDoor

/-
  culvertlaw28.step: KExpire, KPeek, the default
-/
import Derived.Test.YtcmgmhdlokcgbaaDoorLvD
namespace Go.Proofs.YtcmgmhdlokcgbaaDoor
open Go.RowKit Lulnn

variable {w w' w0 W W1 : World} {own own' o0 : Nat → Nat} {i c o j b q n rb tb : Nat} {room R k now : Int} {L L' M : List Rx} {I : Nat → Prop} {A : Nat → Addr} {x y : Rx} {z : Oz} {v va vb cv v2 : Value} {ks ms : List Int} {nl : Bool} {X : Bxs}

set_option maxRecDepth 20000 in
set_option maxHeartbeats 4000000 in
theorem step_expire (g : OnG A w own w0) (h : Cv own 1 w0 cv nl room L) (hd : RdX own w0 v L) (_hz : z.Ok) (hk : z.kd = 5) (hmax : (1 + L.length) * 32 ≤ 140737488355328) :
    Calls Tryd.prog 13 #[cv, cch room v, z.agg] w0 fun e w' => EndS A w own w0 cv nl room (stayL L z.u) e w' := by
  obtain ⟨W1, hW1⟩ : ∃ W1, ((w0.alloc (.cells #[.int .i64 room, v] 31)).alloc (.cells #[.int .i64 z.kd, .int .i64 z.k, .int .i64 z.v, .int .i64 z.w, .int .i64 z.u] 38)).alloc (.cells #[.int .i64 0, .slice none 0 0] 31) = W1 := ⟨_, rfl⟩
  have X1 := Aside.mk (Sp.start g h v z)
  rw [hW1] at X1
  generalize give (give (give own w0.heap.size 8) (w0.heap.size + 1) 8) (w0.heap.size + 1 + 1) 8 = own1 at X1
  have D1 := Aside.mk (hd.sn (I := fun k => k = 1) X1.it.n (by decide))
  obtain ⟨b, hb⟩ : ∃ b, w0.heap.size = b := ⟨_, rfl⟩
  rw [hb] at X1
  obtain ⟨⟨r0, r1⟩, p0, p1, p2, p3, p4⟩ := Sp.args X1 (fun e he => he)
  have HMX := Aside.mk hmax
  have HB : Aside (∀ x ∈ oldL L z.u, I6 x.k) := ⟨fun x hx => (h.lok.ok x ((List.mem_filter.1 hx).1)).k⟩
  have DG := Aside.mk (dexpire28 D1.it room z.u (by omega))
  have q1 : (z.kd == 1) = false := by simp [hk]
  have q2 : (z.kd == 2) = false := by simp [hk]
  have q3 : (z.kd == 3) = false := by simp [hk]
  have q4 : (z.kd == 4) = false := by simp [hk]
  have q5 : (z.kd == 5) = true := by simp [hk]
  clear g h hd hk
  obtain ⟨a, n, c, rfl⟩ : ∃ a n c, v = .slice a n c := by obtain ⟨a, c, e, _⟩ := D1.it.sh; exact ⟨a, _, c, e⟩
  go_enter Tryd.func13, Tryd.ntmps13
  go_upto_region 1 with fail
  clear hb hW1
  go_upto_region 23 with (first | (go_at_call 52; refine DG.it.mono ?_; clear DG; rintro e w3 ⟨qa, qn, qc, pa, pn, pc, rfl, D3, G3, K3⟩) | fail)
  have X3 := Aside.mk (X1.it.step K3.it 9)
  have X4 := Aside.mk (X3.it.box 31 [.int .i64 room, .slice qa qn qc])
  have KT : Aside (Keeps Nowhere w3 (w3.alloc (.cells [.int .i64 room, .slice qa qn qc].toArray 31))) := ⟨(Keeps.refl _ _).alloc _⟩
  have D4 := Aside.mk (D3.it.sn (I := fun _ => False) (Sn.quiet KT.it 8) (fun x => x))
  have G4 := Aside.mk (G3.it.sn (I := fun _ => False) (Sn.quiet KT.it 8) (fun x => x))
  have TN : Aside (b + 1 + 1 < w3.heap.size) := ⟨(X3.it.x _ List.mem_cons_self).1.1.lt⟩
  clear X1 X3 D1 D3 r0 r1 p0 p1 p2 p3 p4 G3 KT
  generalize give (give own1 W1.heap.size 9) w3.heap.size 8 = own4 at X4 D4 G4
  have e4 : w3.alloc (.cells [.int .i64 room, .slice qa qn qc].toArray 31) = w3.alloc (.cells #[.int .i64 room, .slice qa qn qc] 31) := rfl
  rw [e4] at X4 D4 G4
  clear e4
  generalize w3.alloc (.cells #[.int .i64 room, .slice qa qn qc] 31) = w4 at X4 D4 G4 ⊢
  generalize w3.heap.size = tb at X4 TN ⊢
  have hin : ∀ e ∈ bx3 b room (.slice a n c) z, e ∈ (tb, 31, [.int .i64 room, .slice qa qn qc]) :: bx3 b room (.slice a n c) z := fun e he => List.mem_cons_of_mem _ he
  have HIN := Aside.mk hin
  have tne : Aside (tb ≠ b + 1 + 1) := ⟨by have := TN.it; omega⟩
  have X5 := Aside.mk (X4.it.quiet (Keeps.refl Nowhere w4).drew)
  have t0 := Sp.tbox X5 List.mem_cons_self
  obtain ⟨_, _, _, _, _, p4⟩ := Sp.args X5 hin
  have S0 := And.intro t0 p4
  have DC := Aside.mk (cv_expire X5.it.c (by have := HMX.it; omega) z.u 7)
  have kd4 := (Keeps.refl Nowhere w4).drew
  clear hin t0 p4 q1 q2 q3 q4 q5
  go_region_held_law (fun w' => (w'.cell? ⟨tb, 0, none⟩ = some (.int .i64 room) ∧ w'.cell? ⟨tb, 1, none⟩ = some (.slice qa qn qc)) ∧ w'.cell? ⟨b + 1, 4, none⟩ = some (.int .i64 z.u)) (first | exact S0 | exact S7 | exact S8 | exact S9) (first
    | (go_at_call 21; refine DC.it.mono ?_; clear DC; rintro e w7 ⟨ga, gn, gc, rfl, J7, R7, K7⟩
       have X7 := Aside.mk (X5.it.move J7.it K7.it)
       have S7 := And.intro (Sp.tbox X7 List.mem_cons_self) (Sp.args X7 HIN.it).2.2.2.2.2
       have SA := Aside.mk (same_ (keys_rdI R7.it.1 HB.it) (keys_rdI ((G4.it.sn (I := fun _ => False) (Sn.same kd4) (fun x => x)).sn K7.it (by decide)).1 HB.it))
       rw [decide_eq_true rfl] at SA)
    | (go_at_call 29; refine SA.it.mono ?_; clear SA; rintro e w8 ⟨rfl, K8⟩
       have X8 := Aside.mk (X7.it.quiet K8.it)
       have S8 := And.intro (Sp.tbox X8 List.mem_cons_self) (Sp.args X8 HIN.it).2.2.2.2.2
       obtain ⟨z0, z1, h0, h1⟩ := Sp.res X8 HIN.it
       have S9 : ((((w8.setCell ⟨b + 1 + 1, 0, none⟩ (.int .i64 room)).setCell ⟨b + 1 + 1, 1, none⟩ (.slice qa qn qc)).cell? ⟨tb, 0, none⟩ = some (.int .i64 room) ∧ ((w8.setCell ⟨b + 1 + 1, 0, none⟩ (.int .i64 room)).setCell ⟨b + 1 + 1, 1, none⟩ (.slice qa qn qc)).cell? ⟨tb, 1, none⟩ = some (.slice qa qn qc)) ∧ ((w8.setCell ⟨b + 1 + 1, 0, none⟩ (.int .i64 room)).setCell ⟨b + 1 + 1, 1, none⟩ (.slice qa qn qc)).cell? ⟨b + 1, 4, none⟩ = some (.int .i64 z.u)) := ⟨Sp.keepT X8 List.mem_cons_self tne.it (.int .i64 room) (.slice qa qn qc), by
         have h1 := (((X8.it.x (b + 1, 38, z.cells) (HIN.it _ (by simp [bx3]))).1.1.setOther ⟨b + 1 + 1, 0, none⟩ (.int .i64 room) (by simp)).setOther ⟨b + 1 + 1, 1, none⟩ (.slice qa qn qc) (by simp))
         rw [h1.cell]; rfl⟩)
    | fail)
  go_wp2
  have D8 := ((D4.it.quiet kd4).sn K7.it (by decide)).quiet K8.it
  obtain ⟨u0, u1, FE⟩ := Sp.fin X8 HIN.it D8
  refine bodyPost_ret (v := .tuple #[cch room (.slice qa qn qc), .bool true]) (by simp [results, Tryd.f13, go_sem, u0, u1]) rfl ?_
  exact FE.it
set_option maxRecDepth 20000 in
set_option maxHeartbeats 4000000 in
theorem step_look (g : OnG A w own w0) (h : Cv own 1 w0 cv nl room L) (hd : RdX own w0 v L) (h1 : z.kd ≠ 1) (h2 : z.kd ≠ 2) (h3 : z.kd ≠ 3) (h4 : z.kd ≠ 4) (h5 : z.kd ≠ 5) (hmax : (1 + L.length) * 32 ≤ 140737488355328) :
    Calls Tryd.prog 13 #[cv, cch room v, z.agg] w0 fun e w' => EndS A w own w0 cv nl room L e w' := by
  obtain ⟨W1, hW1⟩ : ∃ W1, ((w0.alloc (.cells #[.int .i64 room, v] 31)).alloc (.cells #[.int .i64 z.kd, .int .i64 z.k, .int .i64 z.v, .int .i64 z.w, .int .i64 z.u] 38)).alloc (.cells #[.int .i64 0, .slice none 0 0] 31) = W1 := ⟨_, rfl⟩
  have X1 := Aside.mk (Sp.start g h v z)
  rw [hW1] at X1
  generalize give (give (give own w0.heap.size 8) (w0.heap.size + 1) 8) (w0.heap.size + 1 + 1) 8 = own1 at X1
  have D1 := Aside.mk (hd.sn (I := fun k => k = 1) X1.it.n (by decide))
  obtain ⟨b, hb⟩ : ∃ b, w0.heap.size = b := ⟨_, rfl⟩
  rw [hb] at X1
  obtain ⟨⟨r0, r1⟩, p0, p1, p2, p3, p4⟩ := Sp.args X1 (fun e he => he)
  have HMX := Aside.mk hmax
  have q1 : (z.kd == 1) = false := by simp [h1]
  have q2 : (z.kd == 2) = false := by simp [h2]
  have q3 : (z.kd == 3) = false := by simp [h3]
  have q4 : (z.kd == 4) = false := by simp [h4]
  have q5 : (z.kd == 5) = false := by simp [h5]
  clear g h hd h1 h2 h3 h4 h5
  have X5 := Aside.mk (X1.it.quiet (Keeps.refl Nowhere W1).drew)
  have D5 := Aside.mk (D1.it.quiet (Keeps.refl Nowhere W1).drew)
  have LO := Aside.mk (looks_ X5.it.c D5.it (by omega))
  obtain ⟨a, n, c, rfl⟩ : ∃ a n c, v = .slice a n c := by obtain ⟨a, c, e, _⟩ := D1.it.sh; exact ⟨a, _, c, e⟩
  have HIN : Aside (∀ e ∈ bx3 b room (.slice a n c) z, e ∈ bx3 b room (.slice a n c) z) := ⟨fun e he => he⟩
  have hb0 : Aside ((b, 31, [.int .i64 room, .slice a n c]) ∈ bx3 b room (.slice a n c) z) := ⟨by simp [bx3]⟩
  have S0 := Sp.tbox X5 hb0.it
  go_enter Tryd.func13, Tryd.ntmps13
  go_upto_region 1 with fail
  clear hb hW1
  go_upto_region 24 with fail
  clear r0 r1 p0 p1 p2 p3 p4
  go_region_held_law (fun w' => w'.cell? ⟨b, 0, none⟩ = some (.int .i64 room) ∧ w'.cell? ⟨b, 1, none⟩ = some (.slice a n c)) (first | exact S0 | exact S8 | exact S9) (first
    | (go_at_call 14; refine LO.it.mono ?_; clear LO; rintro e w8 ⟨rfl, K8⟩
       have X8 := Aside.mk (X5.it.quiet K8.it)
       have S8 := Sp.tbox X8 hb0.it
       obtain ⟨z0, z1, h0, h1⟩ := Sp.res X8 HIN.it
       have S9 := Sp.keepT X8 hb0.it (show b ≠ b + 1 + 1 by omega) (.int .i64 room) (.slice a n c))
    | fail)
  go_wp2
  have D8 := D5.it.quiet K8.it
  obtain ⟨u0, u1, FE⟩ := Sp.fin X8 HIN.it D8
  refine bodyPost_ret (v := .tuple #[cch room (.slice a n c), .bool true]) (by simp [results, Tryd.f13, go_sem, u0, u1]) rfl ?_
  exact FE.it
set_option maxRecDepth 20000 in
set_option maxHeartbeats 4000000 in
theorem step_peek (g : OnG A w own w0) (h : Cv own 1 w0 cv nl room L) (hd : RdX own w0 v L) (hz : z.Ok) (hk : z.kd = 3) (hmax : (1 + L.length) * 32 ≤ 140737488355328) :
    Calls Tryd.prog 13 #[cv, cch room v, z.agg] w0 fun e w' => EndS A w own w0 cv nl room L e w' := by
  obtain ⟨W1, hW1⟩ : ∃ W1, ((w0.alloc (.cells #[.int .i64 room, v] 31)).alloc (.cells #[.int .i64 z.kd, .int .i64 z.k, .int .i64 z.v, .int .i64 z.w, .int .i64 z.u] 38)).alloc (.cells #[.int .i64 0, .slice none 0 0] 31) = W1 := ⟨_, rfl⟩
  have X1 := Aside.mk (Sp.start g h v z)
  rw [hW1] at X1
  generalize give (give (give own w0.heap.size 8) (w0.heap.size + 1) 8) (w0.heap.size + 1 + 1) 8 = own1 at X1
  have D1 := Aside.mk (hd.sn (I := fun k => k = 1) X1.it.n (by decide))
  obtain ⟨b, hb⟩ : ∃ b, w0.heap.size = b := ⟨_, rfl⟩
  rw [hb] at X1
  obtain ⟨⟨r0, r1⟩, p0, p1, p2, p3, p4⟩ := Sp.args X1 (fun e he => he)
  have HMX := Aside.mk hmax
  have PK := Aside.mk (cv_peek X1.it.c (k := z.k) hz.k)
  have HO := Aside.mk h.lok
  have q1 : (z.kd == 1) = false := by simp [hk]
  have q2 : (z.kd == 2) = false := by simp [hk]
  have q3 : (z.kd == 3) = true := by simp [hk]
  clear g h hd hk
  obtain ⟨a, n, c, rfl⟩ : ∃ a n c, v = .slice a n c := by obtain ⟨a, c, e, _⟩ := D1.it.sh; exact ⟨a, _, c, e⟩
  have HIN : Aside (∀ e ∈ bx3 b room (.slice a n c) z, e ∈ bx3 b room (.slice a n c) z) := ⟨fun e he => he⟩
  unfold peT puI hasL at PK
  cases hf : findL L z.k with
  | none =>
    rw [hf] at PK
    simp only [Option.isSome_none] at PK
    have HN := Aside.mk (at_none hf)
    clear hf
    go_enter Tryd.func13, Tryd.ntmps13
    go_upto_region 1 with fail
    clear hb hW1
    go_upto_region 14 with (first | (go_at_call 27; refine PK.it.mono ?_; clear PK; rintro e w2 ⟨rfl, K2⟩) | fail)
    have X2 := Aside.mk (X1.it.quiet K2.it)
    have D2 := Aside.mk (D1.it.quiet K2.it)
    clear r0 r1 p0 p1 p2 p3 p4 X1 D1
    obtain ⟨⟨r0, r1⟩, _, p1, _⟩ := Sp.args X2 HIN.it
    have DA := Aside.mk (dat D2.it room z.k)
    rw [HN.it] at DA
    go_upto_region 15 with (first | (go_at_call 50; refine DA.it.mono ?_; clear DA; rintro e w3 ⟨rfl, K3⟩) | fail)
    have X3 := Aside.mk (X2.it.quiet K3.it)
    have D3 := Aside.mk (D2.it.quiet K3.it)
    clear r0 r1 p1 X2 D2
    obtain ⟨⟨r0, r1⟩, _⟩ := Sp.args X3 HIN.it
    obtain ⟨z0, z1, h0, h1⟩ := Sp.res X3 HIN.it
    obtain ⟨u0, u1, FE⟩ := Sp.fin X3 HIN.it D3.it
    go_wp2_with fail
    refine bodyPost_ret (v := .tuple #[cch room (.slice a n c), .bool true]) (by simp [results, Tryd.f13, go_sem, u0, u1]) rfl ?_
    exact FE.it
  | some x =>
    rw [hf] at PK
    simp only [Option.isSome_some] at PK
    obtain ⟨j, hj, ht, he, hjl⟩ := find_split hf
    have HN := Aside.mk (atI_drop hj ht (findL_some hf).2)
    have HJ := Aside.mk hj
    clear hf hj ht he
    go_enter Tryd.func13, Tryd.ntmps13
    go_upto_region 1 with fail
    clear hb hW1
    go_upto_region 14 with (first | (go_at_call 27; refine PK.it.mono ?_; clear PK; rintro e w2 ⟨rfl, K2⟩) | fail)
    have X2 := Aside.mk (X1.it.quiet K2.it)
    have D2 := Aside.mk (D1.it.quiet K2.it)
    clear r0 r1 p0 p1 p2 p3 p4 X1 D1
    obtain ⟨⟨r0, r1⟩, _, p1, _⟩ := Sp.args X2 HIN.it
    have DA := Aside.mk (dat D2.it room z.k)
    rw [HN.it] at DA
    go_upto_region 15 with (first | (go_at_call 50; refine DA.it.mono ?_; clear DA; rintro e w3 ⟨rfl, K3⟩) | fail)
    have X3 := Aside.mk (X2.it.quiet K3.it)
    have D3 := Aside.mk (D2.it.quiet K3.it)
    clear r0 r1 p1 X2 D2
    have X5 := Aside.mk (X3.it.quiet (Keeps.refl Nowhere w3).drew)
    have hb0 : Aside ((b, 31, [.int .i64 room, .slice a n c]) ∈ bx3 b room (.slice a n c) z) := ⟨by simp [bx3]⟩
    have SB := Sp.tbox X5 hb0.it
    have S9b := Sp.keepT X3 hb0.it (show b ≠ b + 1 + 1 by omega) (.int .i64 room) (.slice a n c)
    obtain ⟨z0, z1, h0, h1⟩ := Sp.res X3 HIN.it
    obtain ⟨g, c', hv, hg, _, y1, _, y3⟩ := D3.it.at_ j x HJ.it
    injection hv with hv1 hv2 hv3
    subst hv1 hv3
    have S0 := And.intro SB (And.intro (show w3.drew.cell? ⟨g, j * 4 + 1, none⟩ = some (.int .i64 x.t) from y1) (show w3.drew.cell? ⟨g, j * 4 + 3, none⟩ = some (.int .i64 x.u) from y3))
    have gne : g ≠ b + 1 + 1 := by
      intro e
      obtain ⟨_, cur, hcur⟩ := hg
      have h1 := (X3.it.x _ (HIN.it (b + 1 + 1, 31, [.int .i64 0, .slice none 0 0]) (by simp [bx3]))).1.1
      rw [e, h1] at hcur
      simp at hcur
    have kk : Keeps (fun x => x = b + 1 + 1) w3 ((w3.setCell ⟨b + 1 + 1, 0, none⟩ (.int .i64 room)).setCell ⟨b + 1 + 1, 1, none⟩ (.slice (some ⟨g, 0, none⟩) n c)) := ((Keeps.refl (fun x => x = b + 1 + 1) w3).setCell ⟨b + 1 + 1, 0, none⟩ _ (fun _ => rfl)).setCell ⟨b + 1 + 1, 1, none⟩ _ (fun _ => rfl)
    have hbk := kk.block g (World.block_lt_of_cell? w3 _ y1) gne
    have S9 := And.intro S9b (And.intro (show ((w3.setCell ⟨b + 1 + 1, 0, none⟩ (.int .i64 room)).setCell ⟨b + 1 + 1, 1, none⟩ (.slice (some ⟨g, 0, none⟩) n c)).cell? ⟨g, j * 4 + 1, none⟩ = some (.int .i64 x.t) from by rw [World.cell?_of_block (w := w3) hbk]; exact y1) (show ((w3.setCell ⟨b + 1 + 1, 0, none⟩ (.int .i64 room)).setCell ⟨b + 1 + 1, 1, none⟩ (.slice (some ⟨g, 0, none⟩) n c)).cell? ⟨g, j * 4 + 3, none⟩ = some (.int .i64 x.u) from by rw [World.cell?_of_block (w := w3) hbk]; exact y3))
    have hnl : n = L.length := hv2
    have hjn : (j : Int) < (n : Int) := by omega
    have g1 : (x.t == x.t) = true := by simp
    have g2 : (x.u == x.u) = true := by simp
    obtain ⟨u0, u1, FE⟩ := Sp.fin X3 HIN.it D3.it
    clear hv2 hnl hbk kk SB S9b y1 y3
    go_upto_region 17 with fail
    go_region_held_law (fun w' => (w'.cell? ⟨b, 0, none⟩ = some (.int .i64 room) ∧ w'.cell? ⟨b, 1, none⟩ = some (.slice (some ⟨g, 0, none⟩) n c)) ∧ w'.cell? ⟨g, j * 4 + 1, none⟩ = some (.int .i64 x.t) ∧ w'.cell? ⟨g, j * 4 + 3, none⟩ = some (.int .i64 x.u)) (first | exact S0 | exact S9) (fail)
    go_wp2
    have FD := Aside.mk (EndS.drew FE.it)
    have u0 : ((w3.setCell ⟨b + 1 + 1, 0, none⟩ (.int .i64 room)).setCell ⟨b + 1 + 1, 1, none⟩ (.slice (some ⟨g, 0, none⟩) n c)).drew.cell? ⟨b + 1 + 1, 0, none⟩ = some (.int .i64 room) := u0
    have u1 : ((w3.setCell ⟨b + 1 + 1, 0, none⟩ (.int .i64 room)).setCell ⟨b + 1 + 1, 1, none⟩ (.slice (some ⟨g, 0, none⟩) n c)).drew.cell? ⟨b + 1 + 1, 1, none⟩ = some (.slice (some ⟨g, 0, none⟩) n c) := u1
    generalize ((w3.setCell ⟨b + 1 + 1, 0, none⟩ (.int .i64 room)).setCell ⟨b + 1 + 1, 1, none⟩ (.slice (some ⟨g, 0, none⟩) n c)).drew = WF at u0 u1 FD ⊢
    clear FE
    refine bodyPost_ret (v := .tuple #[cch room (.slice (some ⟨g, 0, none⟩) n c), .bool true]) (by simp [results, Tryd.f13, go_sem, u0, u1]) rfl ?_
    exact FD.it
end Go.Proofs.YtcmgmhdlokcgbaaDoor

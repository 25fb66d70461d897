/-
  culvertlaw28.step: KPut, KDrop, KExpire, KPeek, the default
-/
import Derived.Test.YtcmgmhdlokcgbaaDoorLvC
namespace Go.Proofs.YtcmgmhdlokcgbaaDoor
open Go.RowKit Lulnn

variable {w w' w0 W W1 : World} {own own' o0 : Nat → Nat} {i c o j b q n rb tb : Nat} {room R k now : Int} {L L' M : List Rx} {I : Nat → Prop} {A : Nat → Addr} {x y : Rx} {z : Oz} {v va vb cv v2 : Value} {ks ms : List Int} {nl : Bool} {X : Bxs}

theorem EndS.drew {e : Ending} (h : EndS A w o0 w0 cv nl room L' e W) : EndS A w o0 w0 cv nl room L' e W.drew := by
  obtain ⟨qa, qn, qc, own', rfl, J, S⟩ := h
  exact ⟨qa, qn, qc, own', rfl, ⟨J.it.1.quiet (Keeps.refl _ _).drew, J.it.2.1.quiet (Keeps.refl _ _).drew, J.it.2.2.quiet (Keeps.refl _ _).drew⟩, ⟨S.it.trans (Sn.same (Keeps.refl _ _).drew)⟩⟩
theorem dput_any (h : RdX own w v L) (ho : LOk R L) (hz : z.Ok) (hmax : (1 + L.length) * 32 ≤ 140737488355328) : Calls Tryd.prog 48 #[cch R v, .agg #[.int .i64 z.k, .int .i64 z.v, .int .i64 z.w, .int .i64 z.u]] w fun e w' => ∃ qa qn qc ga gc, e = .returned (.tuple #[cch R (.slice qa qn qc), .slice ga (gonN R L z).length gc, .int .i64 (codN R z)]) ∧ Aside (RdX (give own w.heap.size 9) w' (.slice qa qn qc) (putB R L z)) ∧ Aside (OwR (give own w.heap.size 9) 9 w' 3 1 (.slice ga (gonN R L z).length gc) (gonN R L z).length (iv (gonN R L z))) ∧ Aside (Keeps Nowhere w w') := by
  cases hm : mayP R z.w with
  | true =>
    obtain ⟨h0, hr⟩ := may_true hm
    refine (dput_ok (x := z.rx) h ho (hz.rx h0) hr hmax).mono ?_
    rintro e w' ⟨qa, qn, qc, ga, gn, gc, rfl, D, G, K⟩
    have e1 : codN R z = 0 := by unfold codN; rw [if_neg (by omega), if_neg (by omega)]
    have e2 : gonN R L z = keyL (goneX R L z.rx) := by unfold gonN; rw [if_pos hm]
    have e3 : putB R L z = putL R L z.rx := by unfold putB; rw [if_pos hm]
    rw [e1, e2, e3]
    have r := G.it
    rw [rk_iv] at r
    have hl : (keyL (goneX R L z.rx)).length = (goneX R L z.rx).length := keyL_len _
    rw [hl]
    have := owns_len1 r.1
    subst this
    exact ⟨qa, qn, qc, ga, gc, rfl, D, ⟨r⟩, K⟩
  | false =>
    have hb := may_false hm
    refine (dput_bad h R z.rx hb).mono ?_
    rintro e w' ⟨qa, qn, qc, rfl, D, K⟩
    have e1 : codN R z = if z.w < 0 then 2 else 6 := by
      unfold codN
      rcases hb with hb | ⟨hb, hb2⟩
      · rw [if_pos hb, if_pos hb]
      · have hn : ¬ z.w < 0 := by omega
        rw [if_neg hn, if_neg hn, if_pos hb2]
    have e2 : gonN R L z = [] := by unfold gonN; rw [if_neg (by rw [hm]; simp)]
    have e3 : putB R L z = L := by unfold putB; rw [if_neg (by rw [hm]; simp)]
    rw [e1, e2, e3]
    exact ⟨qa, qn, qc, none, 0, rfl, D, ⟨OwR.zero⟩, K⟩
set_option maxRecDepth 20000 in
set_option maxHeartbeats 4000000 in
theorem step_put {p : Nat} (g : OnG A w own w0) (h : Cv own 1 w0 (ptr p) false room L) (hd : RdX own w0 v L) (hz : z.Ok) (hk : z.kd = 1) (hmax : (1 + L.length) * 32 ≤ 140737488355328) :
    Calls Tryd.prog 13 #[ptr p, cch room v, z.agg] w0 fun e w' => EndS A w own w0 (ptr p) false room (putB room L z) e w' := by
  obtain ⟨W1, hW1⟩ : ∃ W1, ((w0.alloc (.cells #[.int .i64 room, v] 31)).alloc (.cells #[.int .i64 z.kd, .int .i64 z.k, .int .i64 z.v, .int .i64 z.w, .int .i64 z.u] 38)).alloc (.cells #[.int .i64 0, .slice none 0 0] 31) = W1 := ⟨_, rfl⟩
  have X1 := Aside.mk (Sp.start g h v z)
  rw [hW1] at X1
  generalize give (give (give own w0.heap.size 8) (w0.heap.size + 1) 8) (w0.heap.size + 1 + 1) 8 = own1 at X1
  have D1 := Aside.mk (hd.sn (I := fun k => k = 1) X1.it.n (by decide))
  obtain ⟨b, hb⟩ : ∃ b, w0.heap.size = b := ⟨_, rfl⟩
  rw [hb] at X1
  obtain ⟨⟨r0, r1⟩, p0, p1, p2, p3, p4⟩ := Sp.args X1 (fun e he => he)
  have HMX := Aside.mk hmax
  have PT := Aside.mk (cv_put X1.it.c X1.it.og.sents hz (by omega) 7)
  have HO := Aside.mk h.lok
  have HZ := Aside.mk hz
  have q1 : (z.kd == 1) = true := by simp [hk]
  clear g h hd hk
  obtain ⟨a, n, c, rfl⟩ : ∃ a n c, v = .slice a n c := by obtain ⟨a, c, e, _⟩ := D1.it.sh; exact ⟨a, _, c, e⟩
  go_enter Tryd.func13, Tryd.ntmps13
  go_upto_region 1 with fail
  clear hb hW1
  go_upto_region 4 with (first | (go_at_call 28; refine PT.it.mono ?_; clear PT; rintro e w2 ⟨ga, gc, ev, own2, rfl, C2, J2, G2, S2⟩) | fail)
  have X2 := Aside.mk (X1.it.move J2.it S2.it)
  have D2 := Aside.mk (D1.it.sn S2.it (by decide))
  have HC := Aside.mk C2
  clear r0 r1 p0 p1 p2 p3 p4 X1 D1 J2 S2 C2
  obtain ⟨⟨r0, r1⟩, p0, p1, p2, p3, p4⟩ := Sp.args X2 (fun e he => he)
  have DG := Aside.mk (dput_any D2.it HO.it HZ.it HMX.it)
  have eg : gonV false room L z = gonN room L z := rfl
  rw [eg] at G2 ⊢
  clear eg
  go_upto_region 5 with (first | (go_at_call 48; refine DG.it.mono ?_; clear DG; rintro e w3 ⟨qa, qn, qc, ha, hc, rfl, D3, G3, K3⟩) | fail)
  have X3 := Aside.mk (X2.it.step K3.it 9)
  have X4 := Aside.mk (X3.it.box 31 [.int .i64 room, .slice qa qn qc])
  have KT : Aside (Keeps Nowhere w3 (w3.alloc (.cells [.int .i64 room, .slice qa qn qc].toArray 31))) := ⟨(Keeps.refl _ _).alloc _⟩
  have D4 := Aside.mk (D3.it.sn (I := fun _ => False) (Sn.quiet KT.it 8) (fun x => x))
  have SA0 := Aside.mk (same_ (OwR.rdI (((G2.it.1.sn (I := fun _ => False) (Sn.quiet K3.it 9) (fun x => x)).sn (I := fun _ => False) (Sn.quiet KT.it 8) (fun x => x)).sn (I := fun _ => False) (Sn.same (Keeps.refl Nowhere _).drew) (fun x => x)) G2.it.2) (OwR.rdI ((G3.it.sn (I := fun _ => False) (Sn.quiet KT.it 8) (fun x => x)).sn (I := fun _ => False) (Sn.same (Keeps.refl Nowhere _).drew) (fun x => x)) G2.it.2))
  rw [decide_eq_true rfl] at SA0
  have TN : Aside (b + 1 + 1 < w3.heap.size) := ⟨(X3.it.x _ List.mem_cons_self).1.1.lt⟩
  clear X2 X3 D2 D3 r0 r1 p0 p1 p2 p3 p4 G2 G3 KT
  generalize give (give own2 w2.heap.size 9) w3.heap.size 8 = own4 at X4 D4
  have e4 : w3.alloc (.cells [.int .i64 room, .slice qa qn qc].toArray 31) = w3.alloc (.cells #[.int .i64 room, .slice qa qn qc] 31) := rfl
  rw [e4] at X4 D4
  clear e4
  generalize w3.alloc (.cells #[.int .i64 room, .slice qa qn qc] 31) = w4 at X4 D4 SA0 ⊢
  generalize w3.heap.size = tb at X4 TN ⊢
  have hin : ∀ e ∈ bx3 b room (.slice a n c) z, e ∈ (tb, 31, [.int .i64 room, .slice qa qn qc]) :: bx3 b room (.slice a n c) z := fun e he => List.mem_cons_of_mem _ he
  have HIN := Aside.mk hin
  have tne : Aside (tb ≠ b + 1 + 1) := ⟨by have := TN.it; omega⟩
  have X5 := Aside.mk (X4.it.quiet (Keeps.refl Nowhere w4).drew)
  have S0 := Sp.tbox X5 List.mem_cons_self
  have CD := Aside.mk (code_of X5.it.og.sents HC.it)
  have ec : codV false room z = codN room z := rfl
  rw [ec] at CD
  have g1 : (codN room z == codN room z) = true := by simp
  generalize codN room z = cd at CD g1 ⊢
  generalize (gonN room L z).length = gl at SA0 ⊢
  clear hin ec HC
  go_upto_region 7 with fail
  go_region_held_law (fun w' => w'.cell? ⟨tb, 0, none⟩ = some (.int .i64 room) ∧ w'.cell? ⟨tb, 1, none⟩ = some (.slice qa qn qc)) (first | exact S0 | exact S8 | exact S9) (first
    | (go_at_call 12; refine CD.it.mono ?_; clear CD; rintro e w7 ⟨rfl, rfl⟩)
    | (go_at_call 29; refine SA0.it.mono ?_; clear SA0; rintro e w8 ⟨rfl, K8⟩
       have X8 := Aside.mk (X5.it.quiet K8.it)
       have S8 := Sp.tbox X8 List.mem_cons_self
       obtain ⟨z0, z1, h0, h1⟩ := Sp.res X8 HIN.it
       have S9 := Sp.keepT X8 List.mem_cons_self tne.it (.int .i64 room) (.slice qa qn qc))
    | fail)
  go_wp2
  have D8 := D4.it.quiet ((Keeps.refl Nowhere w4).drew.trans K8.it)
  obtain ⟨u0, u1, FE⟩ := Sp.fin X8 HIN.it D8
  refine bodyPost_ret (v := .tuple #[cch room (.slice qa qn qc), .bool true]) (by simp [results, Tryd.f13, go_sem, u0, u1]) rfl ?_
  exact FE.it
set_option maxRecDepth 20000 in
set_option maxHeartbeats 4000000 in
theorem step_putN (g : OnG A w own w0) (h : Cv own 1 w0 (.pointer none) true room L) (hd : RdX own w0 v L) (hz : z.Ok) (hk : z.kd = 1) (hmax : (1 + L.length) * 32 ≤ 140737488355328) :
    Calls Tryd.prog 13 #[.pointer none, cch room v, z.agg] w0 fun e w' => EndS A w own w0 (.pointer none) true room L e w' := by
  obtain ⟨W1, hW1⟩ : ∃ W1, ((w0.alloc (.cells #[.int .i64 room, v] 31)).alloc (.cells #[.int .i64 z.kd, .int .i64 z.k, .int .i64 z.v, .int .i64 z.w, .int .i64 z.u] 38)).alloc (.cells #[.int .i64 0, .slice none 0 0] 31) = W1 := ⟨_, rfl⟩
  have X1 := Aside.mk (Sp.start g h v z)
  rw [hW1] at X1
  generalize give (give (give own w0.heap.size 8) (w0.heap.size + 1) 8) (w0.heap.size + 1 + 1) 8 = own1 at X1
  have D1 := Aside.mk (hd.sn (I := fun k => k = 1) X1.it.n (by decide))
  obtain ⟨b, hb⟩ : ∃ b, w0.heap.size = b := ⟨_, rfl⟩
  rw [hb] at X1
  obtain ⟨⟨r0, r1⟩, p0, p1, p2, p3, p4⟩ := Sp.args X1 (fun e he => he)
  have HMX := Aside.mk hmax
  have PT := Aside.mk (cv_put X1.it.c X1.it.og.sents hz (by omega) 7)
  have HO := Aside.mk h.lok
  have HZ := Aside.mk hz
  have q1 : (z.kd == 1) = true := by simp [hk]
  clear g h hd hk
  obtain ⟨a, n, c, rfl⟩ : ∃ a n c, v = .slice a n c := by obtain ⟨a, c, e, _⟩ := D1.it.sh; exact ⟨a, _, c, e⟩
  go_enter Tryd.func13, Tryd.ntmps13
  go_upto_region 1 with fail
  clear hb hW1
  go_upto_region 4 with (first | (go_at_call 28; refine PT.it.mono ?_; clear PT; rintro e w2 ⟨ga, gc, ev, own2, rfl, C2, J2, G2, S2⟩) | fail)
  have X2 := Aside.mk (X1.it.move J2.it S2.it)
  have D2 := Aside.mk (D1.it.sn S2.it (by decide))
  have HC := Aside.mk C2
  clear r0 r1 p0 p1 p2 p3 p4 X1 D1 J2 S2 C2
  obtain ⟨⟨r0, r1⟩, p0, p1, p2, p3, p4⟩ := Sp.args X2 (fun e he => he)
  have DG := Aside.mk (dput_any D2.it HO.it HZ.it HMX.it)
  have eg : (gonV true room L z).length = 0 := rfl
  rw [eg]
  clear eg G2
  go_upto_region 5 with (first | (go_at_call 48; refine DG.it.mono ?_; clear DG; rintro e w3 ⟨qa, qn, qc, ha, hc, rfl, D3, G3, K3⟩) | fail)
  have X3 := Aside.mk (X2.it.step K3.it 9)
  have X4 := Aside.mk (X3.it.box 31 [.int .i64 room, .slice qa qn qc])
  have D4 := Aside.mk ((D2.it.sn (I := fun _ => False) (Sn.quiet K3.it 9) (fun x => x)).sn (I := fun _ => False) (Sn.quiet ((Keeps.refl Nowhere w3).alloc (.cells [.int .i64 room, .slice qa qn qc].toArray 31)) 8) (fun x => x))
  clear X2 X3 D2 D3 r0 r1 p0 p1 p2 p3 p4 G3
  generalize give (give own2 w2.heap.size 9) w3.heap.size 8 = own4 at X4 D4
  have e4 : w3.alloc (.cells [.int .i64 room, .slice qa qn qc].toArray 31) = w3.alloc (.cells #[.int .i64 room, .slice qa qn qc] 31) := rfl
  rw [e4] at X4 D4
  clear e4
  generalize w3.alloc (.cells #[.int .i64 room, .slice qa qn qc] 31) = w4 at X4 D4 ⊢
  generalize w3.heap.size = tb at X4 ⊢
  have hin : ∀ e ∈ bx3 b room (.slice a n c) z, e ∈ (tb, 31, [.int .i64 room, .slice qa qn qc]) :: bx3 b room (.slice a n c) z := fun e he => List.mem_cons_of_mem _ he
  have X5 := Aside.mk (X4.it.quiet (Keeps.refl Nowhere w4).drew)
  have hb0 : (b, 31, [.int .i64 room, .slice a n c]) ∈ (tb, 31, [.int .i64 room, .slice qa qn qc]) :: bx3 b room (.slice a n c) z := hin _ (by simp [bx3])
  have S0 := Sp.tbox X5 hb0
  obtain ⟨z0, z1, h0, h1⟩ := Sp.res X5 hin
  obtain ⟨zz0, zz1, hh0, hh1⟩ := Sp.res X4 hin
  have S9 := Sp.keepT X5 hb0 (show b ≠ b + 1 + 1 by omega) (.int .i64 room) (.slice a n c)
  have CD := Aside.mk (code_of X5.it.og.sents HC.it)
  have ec : codV true room z = 1 := rfl
  rw [ec] at CD
  have HIN := Aside.mk hin
  clear hin ec HC hb0
  generalize codN room z = cd at *
  go_upto_region 6 with fail
  go_region_held_law (fun w' => w'.cell? ⟨b, 0, none⟩ = some (.int .i64 room) ∧ w'.cell? ⟨b, 1, none⟩ = some (.slice a n c)) (first | exact S0 | exact S9) (first
    | (go_at_call 12; refine CD.it.mono ?_; clear CD; rintro e w7 ⟨rfl, rfl⟩)
    | fail)
  go_wp2
  obtain ⟨u0, u1, FE⟩ := Sp.fin X4 HIN.it D4.it
  have FD := Aside.mk (EndS.drew FE.it)
  have u0 : ((w4.setCell ⟨b + 1 + 1, 0, none⟩ (.int .i64 room)).setCell ⟨b + 1 + 1, 1, none⟩ (.slice a n c)).drew.cell? ⟨b + 1 + 1, 0, none⟩ = some (.int .i64 room) := u0
  have u1 : ((w4.setCell ⟨b + 1 + 1, 0, none⟩ (.int .i64 room)).setCell ⟨b + 1 + 1, 1, none⟩ (.slice a n c)).drew.cell? ⟨b + 1 + 1, 1, none⟩ = some (.slice a n c) := u1
  generalize ((w4.setCell ⟨b + 1 + 1, 0, none⟩ (.int .i64 room)).setCell ⟨b + 1 + 1, 1, none⟩ (.slice a n c)).drew = WF at u0 u1 FD ⊢
  clear FE
  have FE := FD
  refine bodyPost_ret (v := .tuple #[cch room (.slice a n c), .bool true]) (by simp [results, Tryd.f13, go_sem, u0, u1]) rfl ?_
  exact FE.it
set_option maxRecDepth 20000 in
set_option maxHeartbeats 4000000 in
theorem step_drop (g : OnG A w own w0) (h : Cv own 1 w0 cv nl room L) (hd : RdX own w0 v L) (hz : z.Ok) (hk : z.kd = 4) (hmax : (1 + L.length) * 32 ≤ 140737488355328) :
    Calls Tryd.prog 13 #[cv, cch room v, z.agg] w0 fun e w' => EndS A w own w0 cv nl room (dropL L z.k) e w' := by
  obtain ⟨W1, hW1⟩ : ∃ W1, ((w0.alloc (.cells #[.int .i64 room, v] 31)).alloc (.cells #[.int .i64 z.kd, .int .i64 z.k, .int .i64 z.v, .int .i64 z.w, .int .i64 z.u] 38)).alloc (.cells #[.int .i64 0, .slice none 0 0] 31) = W1 := ⟨_, rfl⟩
  have X1 := Aside.mk (Sp.start g h v z)
  rw [hW1] at X1
  generalize give (give (give own w0.heap.size 8) (w0.heap.size + 1) 8) (w0.heap.size + 1 + 1) 8 = own1 at X1
  have D1 := Aside.mk (hd.sn (I := fun k => k = 1) X1.it.n (by decide))
  obtain ⟨b, hb⟩ : ∃ b, w0.heap.size = b := ⟨_, rfl⟩
  rw [hb] at X1
  obtain ⟨⟨r0, r1⟩, p0, p1, p2, p3, p4⟩ := Sp.args X1 (fun e he => he)
  have HMX := Aside.mk hmax
  have HZ := Aside.mk hz
  have DG := Aside.mk (ddrop28 D1.it room z.k (by omega))
  have q1 : (z.kd == 1) = false := by simp [hk]
  have q2 : (z.kd == 2) = false := by simp [hk]
  have q3 : (z.kd == 3) = false := by simp [hk]
  have q4 : (z.kd == 4) = true := by simp [hk]
  clear g h hd hk
  obtain ⟨a, n, c, rfl⟩ : ∃ a n c, v = .slice a n c := by obtain ⟨a, c, e, _⟩ := D1.it.sh; exact ⟨a, _, c, e⟩
  go_enter Tryd.func13, Tryd.ntmps13
  go_upto_region 1 with fail
  clear hb hW1
  go_upto_region 20 with (first | (go_at_call 51; refine DG.it.mono ?_; clear DG; rintro e w3 ⟨qa, qn, qc, rfl, D3, K3⟩) | fail)
  have X3 := Aside.mk (X1.it.step K3.it 9)
  have X4 := Aside.mk (X3.it.box 31 [.int .i64 room, .slice qa qn qc])
  have D4 := Aside.mk (D3.it.sn (I := fun _ => False) (Sn.quiet ((Keeps.refl Nowhere w3).alloc (.cells [.int .i64 room, .slice qa qn qc].toArray 31)) 8) (fun x => x))
  have TN : Aside (b + 1 + 1 < w3.heap.size) := ⟨(X3.it.x _ List.mem_cons_self).1.1.lt⟩
  clear X1 X3 D1 D3 r0 r1 p0 p1 p2 p3 p4
  generalize give (give own1 W1.heap.size 9) w3.heap.size 8 = own4 at X4 D4
  have e4 : w3.alloc (.cells [.int .i64 room, .slice qa qn qc].toArray 31) = w3.alloc (.cells #[.int .i64 room, .slice qa qn qc] 31) := rfl
  rw [e4] at X4 D4
  clear e4
  generalize w3.alloc (.cells #[.int .i64 room, .slice qa qn qc] 31) = w4 at X4 D4 ⊢
  generalize w3.heap.size = tb at X4 TN ⊢
  have hin : ∀ e ∈ bx3 b room (.slice a n c) z, e ∈ (tb, 31, [.int .i64 room, .slice qa qn qc]) :: bx3 b room (.slice a n c) z := fun e he => List.mem_cons_of_mem _ he
  have HIN := Aside.mk hin
  have tne : Aside (tb ≠ b + 1 + 1) := ⟨by have := TN.it; omega⟩
  have X5 := Aside.mk (X4.it.quiet (Keeps.refl Nowhere w4).drew)
  have t0 := Sp.tbox X5 List.mem_cons_self
  obtain ⟨_, p0, p1, _⟩ := Sp.args X5 hin
  have S0 := And.intro t0 p1
  have DC := Aside.mk (cv_drop X5.it.c (k := z.k) HZ.it.k)
  have gb : (hasL L z.k == hasL L z.k) = true := by simp
  generalize hasL L z.k = hb at DC gb ⊢
  clear hin t0 p0 p1
  go_region_held_law (fun w' => (w'.cell? ⟨tb, 0, none⟩ = some (.int .i64 room) ∧ w'.cell? ⟨tb, 1, none⟩ = some (.slice qa qn qc)) ∧ w'.cell? ⟨b + 1, 1, none⟩ = some (.int .i64 z.k)) (first | exact S0 | exact S8 | exact S9) (first
    | (go_at_call 20; refine DC.it.mono ?_; clear DC; rintro e w8 ⟨rfl, J8, K8⟩
       have X8 := Aside.mk (X5.it.move J8.it K8.it)
       obtain ⟨_, _, p1, _⟩ := Sp.args X8 HIN.it
       have S8 := And.intro (Sp.tbox X8 List.mem_cons_self) p1
       obtain ⟨z0, z1, h0, h1⟩ := Sp.res X8 HIN.it
       have S9 : ((((w8.setCell ⟨b + 1 + 1, 0, none⟩ (.int .i64 room)).setCell ⟨b + 1 + 1, 1, none⟩ (.slice qa qn qc)).cell? ⟨tb, 0, none⟩ = some (.int .i64 room) ∧ ((w8.setCell ⟨b + 1 + 1, 0, none⟩ (.int .i64 room)).setCell ⟨b + 1 + 1, 1, none⟩ (.slice qa qn qc)).cell? ⟨tb, 1, none⟩ = some (.slice qa qn qc)) ∧ ((w8.setCell ⟨b + 1 + 1, 0, none⟩ (.int .i64 room)).setCell ⟨b + 1 + 1, 1, none⟩ (.slice qa qn qc)).cell? ⟨b + 1, 1, none⟩ = some (.int .i64 z.k)) := ⟨Sp.keepT X8 List.mem_cons_self tne.it (.int .i64 room) (.slice qa qn qc), by
         have h1 := (((X8.it.x (b + 1, 38, z.cells) (HIN.it _ (by simp [bx3]))).1.1.setOther ⟨b + 1 + 1, 0, none⟩ (.int .i64 room) (by simp)).setOther ⟨b + 1 + 1, 1, none⟩ (.slice qa qn qc) (by simp))
         rw [h1.cell]; rfl⟩)
    | fail)
  go_wp2
  have D8 := (D4.it.quiet (Keeps.refl Nowhere w4).drew).sn K8.it (by decide)
  obtain ⟨u0, u1, FE⟩ := Sp.fin X8 HIN.it D8
  refine bodyPost_ret (v := .tuple #[cch room (.slice qa qn qc), .bool true]) (by simp [results, Tryd.f13, go_sem, u0, u1]) rfl ?_
  exact FE.it
end Go.Proofs.YtcmgmhdlokcgbaaDoor

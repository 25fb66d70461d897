/-
  SchedFirst
-/
import Derived.Test.YthlblimocfefpaaDoorPFiP
import Derived.Test.YthlblimocfefpaaDoorOpx
import Derived.Deep.DeepCutAuto
import Derived.Deep.CutBlock
namespace Go.Proofs.YthlblimocfefpaaDoor
open Go.RowKit

set_option maxRecDepth 8000 in
set_option maxHeartbeats 16000000 in
theorem schedFirst_walk {A : Nat → Addr} (v : Value) (zs : List OpV13) (w : World) (h : St11 A w) (hz : Ops13Arg w v zs) :
    Calls Tryd.prog 3 #[v] w fun e w' => e = .returned (.bool true) ∧ Below w.heap.size w w' := by
  obtain ⟨hz, hzb⟩ := hz
  obtain ⟨sa, cap, rfl, hlc, hcm, hat⟩ := hz
  have HAT := Aside.mk hat
  obtain ⟨M, hM⟩ : ∃ M, M = zs.length := ⟨_, rfl⟩
  rw [← hM] at hlc hzb ⊢
  have HM := Aside.mk hM
  have hMb : (M : Int) ≤ 1759218604390 := by omega
  have hMc : (M : Int) ≤ cap := by omega
  have FX := Aside.mk (awake13 h)
  clear h hM hcm hat hzb
  go_enter Tryd.func3, Tryd.ntmps3
  go_wp2_with (first
    | (go_at_call 6; refine FX.it.mono ?_; rintro e w1 ⟨rfl, k1⟩; obtain ⟨own1, g1⟩ := k1.it; have NW := Aside.mk (new_sc g1))
    | (go_at_call 7; refine NW.it.mono ?_; rintro e w2 ⟨s, own2, rfl, L2⟩)
    | fail)
  clear FX NW k1 g1
  go_loopw [4] (fun iv wr => ∃ (q m : Nat) (L : List Tk) (ks : List Nat) (own : Nat → Nat), iv = .int .i64 q ∧ q ≤ M ∧ Aside (Sc A w own wr s L m ks) ∧ Aside (m ≤ q ∧ ks.length ≤ q)) (fun iv _ => M - (intOf iv).toNat)
  case atStart => exact ⟨0, 0, [], [], own2, rfl, Nat.zero_le _, L2, ⟨Nat.le_refl _, Nat.le_refl _⟩⟩
  case round =>
    obtain ⟨q, m, L, ks, own3, rfl, hq, L3, K3⟩ := hrel
    clear L2
    by_cases h1 : q < M
    · have h1' : (q : Int) < M := by omega
      obtain ⟨z, hk⟩ : ∃ z, zs[q]? = some z := ⟨_, List.getElem?_eq_getElem (by rw [← HM.it]; exact h1)⟩
      obtain ⟨b, o, cs, rfl, hok, hcl, hc⟩ := HAT.it q z hk
      have htw := hok.t
      have hid := hok.i
      obtain ⟨oa, oc, eo, _⟩ := hok.o
      obtain ⟨ma, mc, em, _⟩ := hok.m
      have ecs := hok.e
      subst ecs
      have bel := L3.it.bel
      have r : ∀ j u, j < 7 → z.cells[j]? = some u → wr.cell? ⟨b, o + q * 7 + j, none⟩ = some u := by
        intro j u hj hu
        have := (hc j hj).trans hu
        rw [bel.cell (World.block_lt_of_cell? w _ this)]; exact this
      have r0 : wr.cell? ⟨b, o + q * 7, none⟩ = some (.int .i64 z.kind) := r 0 _ (by decide) rfl
      have r1 := r 1 (.int .i64 z.t.k) (by decide) rfl
      have r2 := r 2 (.int .u32 z.t.s) (by decide) rfl
      have r3 := r 3 (.int .u32 z.t.v) (by decide) rfl
      have r4 := r 4 (.int .u32 z.id) (by decide) rfl
      have r5 := r 5 z.vo (by decide) rfl
      have r6 := r 6 z.vm (by decide) rfl
      have HW := Aside.mk (And.intro htw hid)
      clear hc hcl bel hk htw hid r
      rw [eo] at r5
      rw [em] at r6
      clear hok eo em
      obtain ⟨kind, t, id, vo, vm, bo, bm⟩ := z
      simp only [List.length_map] at r0 r1 r2 r3 r4 r5 r6 HW
      generalize bo.length = ol at r5
      generalize bm.length = ml at r6
      go_upto_region 8 with fail
      obtain ⟨b5, hb5⟩ : ∃ b, b = wr.heap.size := ⟨_, rfl⟩
      obtain ⟨w5, hw5⟩ : ∃ w5, w5 = wr.alloc (.cells #[.int .i64 kind, .int .i64 t.k, .int .u32 t.s, .int .u32 t.v, .int .u32 id, .slice oa ol oc, .slice ma ml mc] 32) := ⟨_, rfl⟩
      have k5 : Keeps Nowhere wr w5 := by rw [hw5]; exact (Keeps.refl _ _).alloc _
      have c5 : Cells w5 b5 32 [.int .i64 kind, .int .i64 t.k, .int .u32 t.s, .int .u32 t.v, .int .u32 id, .slice oa ol oc, .slice ma ml mc] := by rw [hw5, hb5]; exact Cells.new wr _ _
      have u0 : w5.cell? ⟨b5, 0, none⟩ = some (.int .i64 kind) := c5.cell 0
      have L5 : Aside (Sc A w own3 w5 s L m ks) := ⟨L3.it.quiet k5⟩
      have C5 := Aside.mk c5
      rw [← hb5, ← hw5]
      clear hb5 hw5 k5 c5 r0 r1 r2 r3 r4 r5 r6 L3
      by_cases e1 : kind = 1
      · subst e1
        have u1 : w5.cell? ⟨b5, 1, none⟩ = some (.int .i64 t.k) := C5.it.cell 1
        have u2 : w5.cell? ⟨b5, 2, none⟩ = some (.int .u32 t.s) := C5.it.cell 2
        have u3 : w5.cell? ⟨b5, 3, none⟩ = some (.int .u32 t.v) := C5.it.cell 3
        have TK := Aside.mk (ticket_sc L5.it t HW.it.1 (by have := K3.it.1; omega))
        clear C5
        go_wp2_with (first
          | (go_at_call 8; refine TK.it.mono ?_; rintro e w6 ⟨x6, own6, rfl, hx6, L6, q6⟩)
          | fail)
        go_roundw
        case rel => exact ⟨q + 1, m + 1, _, ks, own6, by go_num, by omega, L6, ⟨by have := K3.it.1; omega, by have := K3.it.2; omega⟩⟩
        case measure => simp [intOf]; omega
      · by_cases e3 : kind = 3
        · subst e3
          have u4 : w5.cell? ⟨b5, 4, none⟩ = some (.int .u32 id) := C5.it.cell 4
          have RD := Aside.mk (ready_sc L5.it id HW.it.2 (by have := K3.it.2; unfold maxLen; omega))
          clear C5
          go_wp2_with (first
            | (go_at_call 9; refine RD.it.mono ?_; rintro e w6 ⟨own6, rfl, L6, q6⟩)
            | fail)
          go_roundw
          case rel => exact ⟨q + 1, m, L, _, own6, by go_num, by omega, L6, ⟨by have := K3.it.1; omega, by have := K3.it.2; have := addL_len ks id; omega⟩⟩
          case measure => simp [intOf]; omega
        · by_cases e67 : kind = 6 ∨ kind = 7
          · have hkq : (ks.length : Int) ≤ 1759218604390 := by have := K3.it.2; omega
            have hmq : (L.length : Int) ≤ 1759218604390 := by have := K3.it.1; have := L5.it.bound; omega
            have TI := Aside.mk (tickets_sl L5.it (by have := K3.it.1; omega))
            have TU := Aside.mk (fun W (k : Keeps Nowhere w5 W) => turns_sl (L5.it.quiet k) (by omega))
            clear C5 HW
            rcases e67 with rfl | rfl
            all_goals
              go_upto_region 16 with (first
                | (go_at_call 11; refine (TU.it w6 k6.it).mono ?_; rintro e w7 ⟨ua, uc, rfl, o7, k7⟩)
                | (go_at_call 10; refine TI.it.mono ?_; rintro e w6 ⟨ta, tc, rfl, o6, k6⟩)
                | fail)
              obtain ⟨own7, F7⟩ : ∃ own7, Aside (Fi A w s L m ks (.slice ta L.length tc) L (.slice ua ks.length uc) ks own7 w7) := by
                have q6 : Sn (fun _ => False) own3 w5 (give own3 w5.heap.size 12) w6 := Sn.quiet k6.it 12
                have q7 : Sn (fun _ => False) (give own3 w5.heap.size 12) w6 (give (give own3 w5.heap.size 12) w6.heap.size 10) w7 := Sn.quiet k7.it 10
                exact ⟨_, ⟨⟨(L5.it.sn q6 (fun x => x) (fun _ _ x => x)).sn q7 (fun x => x) (fun _ _ x => x), (OwR.new o6.it).sn q7 (fun x => x), OwR.new o7.it⟩⟩⟩
              clear TI TU o6 o7 k6 k7 L5
              go_upto_region 17 with fail
              obtain ⟨ab, hab⟩ : ∃ b, b = w7.heap.size := ⟨_, rfl⟩
              obtain ⟨w8, hw8⟩ : ∃ w8, w8 = w7.alloc (.cells #[.slice none 0 0] 39) := ⟨_, rfl⟩
              obtain ⟨own8, ho8⟩ : ∃ own8, own8 = give own7 w7.heap.size 7 := ⟨_, rfl⟩
              have q8 : Sn (fun _ => False) own7 w7 own8 w8 := by rw [ho8, hw8]; exact Sn.quiet ((Keeps.refl _ _).alloc _) 7
              have c8 : CellsO own8 7 w8 ab 39 [.slice none 0 0] := by rw [ho8, hw8, hab]; exact ⟨Cells.new w7 _ _, give_new (Nat.le_refl _)⟩
              have F8 : Aside (Fi A w s L m ks (.slice ta L.length tc) L (.slice ua ks.length uc) ks own8 w8) := ⟨F7.it.idle q8⟩
              have DA : Aside (Calls Tryd.prog 13 #[.agg #[.int .i64 0, .int .i64 0, .int .u32 0, .int .u32 0, .int .u32 0, .slice none 0 0, .slice none 0 0], ptr ab] w8 fun e w' => ∃ cb ob own', e = .returned (.func (.func 36) #[] #[ptr cb, ptr ob]) ∧ Aside (Dt w own' w' cb ob ab [] (.slice none 0 0) (.slice none 0 0) [] []) ∧ Aside (Sn (fun _ => False) own8 w8 own' w')) :=
                ⟨data_at (l := []) 0 ⟨0, 0, 0⟩ 0 F8.it.sc.g rdBo_nil rdBo_nil c8 OwR.zero⟩
              rw [← hab, ← hw8]
              clear hab hw8 ho8 q8 c8 F7
              cases L with
              | cons tk L' =>
                have hmay := (F8.it.sc.may tk List.mem_cons_self).1
                have NX := Aside.mk (fun cb ob own9 w9 (q9 : Sn (fun _ => False) own8 w8 own9 w9) => next_tk tk (F8.it.idle q9).sc (by have := K3.it.1; omega) (.func (.func 36) #[] #[ptr cb, ptr ob]))
                have HMY := Aside.mk hmay
                clear hmay
                go_upto_region 18 with (first
                  | (go_at_call 12; refine (NX.it cb ob own9 w9 q9.it).mono ?_; rintro e wa ⟨owna, rfl, La, qa⟩)
                  | (go_at_call 13; refine DA.it.mono ?_; rintro e w9 ⟨cb, ob, own9, rfl, d9, q9⟩)
                  | fail)
                obtain ⟨b9, hb9⟩ : ∃ b, b = wa.heap.size := ⟨_, rfl⟩
                obtain ⟨wb, hwb⟩ : ∃ wb, wb = wa.alloc (.cells #[.int .u8 0, .int .u8 (shF tk.k.toNat), .int .u16 (shG tk.k.toNat), .int .u32 tk.s, .int .u32 tk.v, .slice none 0 0] 46) := ⟨_, rfl⟩
                have kb : Keeps Nowhere wa wb := by rw [hwb]; exact (Keeps.refl _ _).alloc _
                have cb9 : Cells wb b9 46 [.int .u8 0, .int .u8 (shF tk.k.toNat), .int .u16 (shG tk.k.toNat), .int .u32 tk.s, .int .u32 tk.v, .slice none 0 0] := by rw [hwb, hb9]; exact Cells.new wa _ _
                have Fb : Aside (Fi A w s L' m ks (.slice ta (tk :: L').length tc) (tk :: L') (.slice ua ks.length uc) ks owna wb) := ⟨((F8.it.idle q9.it).step qa.it (fun x => by have := x.2; omega) (fun x => by have := x.2; omega) La.it).idle (Sn.same kb)⟩
                have db := (d9.it.sn qa.it not_in6_0 (fun x => by have := x.2; omega) (fun x => by have := x.2; omega)).quiet kb
                obtain ⟨va, hva, hra⟩ := db.ab
                obtain ⟨aa, ac, rfl, _, _, _⟩ := owns_rdU hra.1
                have CB := Aside.mk (And.intro cb9 hva.1)
                obtain ⟨ta', tc', et, _, _, hct⟩ := RdT.at (owns_readsK Fb.it.ti.1)
                injection et with et1 et2 et3
                subst et1 et3
                obtain ⟨tg, to', rfl, y0, y1, y2⟩ := hct 0 tk rfl
                simp only [Nat.zero_mul, Nat.add_zero] at y0 y1 y2
                have FR := Aside.mk (frameR_ok (w := wb) tk HMY.it)
                rw [← hb9, ← hwb]
                clear hb9 hwb kb cb9 db hva hra hct et2 La qa d9 q9 NX DA F8
                simp only [List.length_cons] at hmq Fb
                try simp only [List.length_cons]
                obtain ⟨n, hn⟩ : ∃ n, n = L'.length := ⟨_, rfl⟩
                obtain ⟨n2, hn2⟩ : ∃ n2, n2 = ks.length := ⟨_, rfl⟩
                rw [← hn] at hmq Fb ⊢
                rw [← hn2] at hkq Fb ⊢
                have HN := Aside.mk (And.intro hn hn2)
                have p1 : (0 : Int) < (n : Int) + 1 + n2 := by omega
                have p2 : (0 : Int) < (n : Int) + 1 := by omega
                clear hn hn2
                go_upto_region 22 with (first
                  | (go_at_call 14; refine FR.it.mono ?_; rintro e wc ⟨rfl, kc⟩)
                  | fail)
                obtain ⟨b11, hb11⟩ : ∃ b, b = wc.heap.size := ⟨_, rfl⟩
                obtain ⟨wd, hwd⟩ : ∃ wd, wd = wc.alloc (.cells #[.int .u8 0, .int .u8 (shF tk.k.toNat), .int .u16 (shG tk.k.toNat), .int .u32 tk.s, .int .u32 tk.v] 43) := ⟨_, rfl⟩
                have kd : Keeps Nowhere wb wd := by rw [hwd]; exact kc.it.alloc _
                have cd : Cells wd b11 43 [.int .u8 0, .int .u8 (shF tk.k.toNat), .int .u16 (shG tk.k.toNat), .int .u32 tk.s, .int .u32 tk.v] := by rw [hwd, hb11]; exact Cells.new wc _ _
                have Fd : Aside (Fi A w s L' m ks (.slice (some ⟨tg, to', none⟩) (n + 1) tc) (tk :: L') (.slice ua n2 uc) ks owna wd) := ⟨Fb.it.idle (Sn.same kd)⟩
                have c9 := CB.it.1.later kd (fun x => x)
                have z0 : wd.cell? ⟨b9, 0, none⟩ = some (.int .u8 0) := c9.cell 0
                have z1 : wd.cell? ⟨b9, 1, none⟩ = some (.int .u8 (shF tk.k.toNat)) := c9.cell 1
                have z2 : wd.cell? ⟨b9, 2, none⟩ = some (.int .u16 (shG tk.k.toNat)) := c9.cell 2
                have z3 : wd.cell? ⟨b9, 3, none⟩ = some (.int .u32 tk.s) := c9.cell 3
                have z4 : wd.cell? ⟨b9, 4, none⟩ = some (.int .u32 tk.v) := c9.cell 4
                have z5 : wd.cell? ⟨b9, 5, none⟩ = some (.slice none 0 0) := c9.cell 5
                have x0 : wd.cell? ⟨b11, 0, none⟩ = some (.int .u8 0) := cd.cell 0
                have x1 : wd.cell? ⟨b11, 1, none⟩ = some (.int .u8 (shF tk.k.toNat)) := cd.cell 1
                have x2 : wd.cell? ⟨b11, 2, none⟩ = some (.int .u16 (shG tk.k.toNat)) := cd.cell 2
                have x3 : wd.cell? ⟨b11, 3, none⟩ = some (.int .u32 tk.s) := cd.cell 3
                have x4 : wd.cell? ⟨b11, 4, none⟩ = some (.int .u32 tk.v) := cd.cell 4
                have ya : wd.cell? ⟨ab, 0, none⟩ = some (.slice aa 0 ac) := (CB.it.2.later kd (fun x => x)).cell 0
                have NQ := fun w => hd_neq13 w 0 0 (shF tk.k.toNat) (shF tk.k.toNat) (shG tk.k.toNat) (shG tk.k.toNat) tk.s tk.s tk.v tk.v
                simp only [and_self, decide_true, Bool.not_true] at NQ
                have TI := tickets_sl Fd.it.sc (by have := K3.it.1; omega)
                rw [← HN.it.1] at TI
                have TI := Aside.mk TI
                have TU : Aside (∀ W, Keeps Nowhere wd W → Calls Tryd.prog 11 #[ptr s] W fun e w' => ∃ a c, e = .returned (.slice a n2 c) ∧ Aside (w'.ownsRow W.heap.size 27 1 (.slice a n2 c) n2 (uv ks)) ∧ Aside (Keeps Nowhere W w')) := ⟨fun W k => by rw [HN.it.2]; exact turns_sl (Fd.it.sc.quiet k) (by have := HN.it.2; omega)⟩
                have SN : Aside (∀ W B a c, Keeps Nowhere wd W → W.ownsRow B 27 1 (.slice a n2 c) n2 (uv ks) → Calls Tryd.prog 15 #[.slice a n2 c, .slice ua n2 uc] W fun e w' => e = .returned (.bool true) ∧ Aside (Sc A w owna w' s L' m ks)) := ⟨fun W B a c k o => by
                  have F6 := Fd.it.idle (Sn.same k)
                  refine (same_nums (.slice a n2 c) (.slice ua n2 uc) ks (owns_rdU o) (owns_rdU F6.tu.1)).mono ?_
                  rintro e w' ⟨rfl, k'⟩
                  exact ⟨rfl, ⟨(F6.idle (Sn.same k'.it)).sc⟩⟩⟩
                rw [← hb11, ← hwd]
                clear hb11 hwd kd cd c9 CB FR Fb kc y0 y1 y2
                go_wp2_with (first
                  | (go_at_call 15; refine (SN.it wf _ af cf (ke.it.trans kf.it) of_.it).mono ?_; rintro e wg ⟨rfl, Lg⟩)
                  | (go_at_call 11; refine (TU.it we ke.it).mono ?_; rintro e wf ⟨af, cf, rfl, of_, kf⟩)
                  | (go_at_call 10; refine TI.it.mono ?_; rintro e we ⟨ae, ce, rfl, oe, ke⟩)
                  | fail)
                go_roundw
                case rel => exact ⟨q + 1, m, L', ks, owna, by go_num, by omega, Lg, ⟨by have := K3.it.1; omega, by have := K3.it.2; omega⟩⟩
                case measure => simp [intOf]; omega
              | nil =>
                cases ks with
                | cons k t =>
                  have hl4 : (k :: t).length * 4 ≤ 140737488355328 := by omega
                  have ND := Aside.mk (fun cb ob own9 w9 (q9 : Sn (fun _ => False) own8 w8 own9 w9) (d9 : Dt w own9 w9 cb ob ab [] (.slice none 0 0) (.slice none 0 0) [] []) => nextD (F8.it.idle q9).sc d9 hl4)
                  clear hl4
                  go_upto_region 18 with (first
                    | (go_at_call 12; refine (ND.it cb ob own9 w9 q9.it d9.it).mono ?_; rintro e wa ⟨owna, g, rfl, La, da, qa⟩)
                    | (go_at_call 13; refine DA.it.mono ?_; rintro e w9 ⟨cb, ob, own9, rfl, d9, q9⟩)
                    | fail)
                  obtain ⟨b9, hb9⟩ : ∃ b, b = wa.heap.size := ⟨_, rfl⟩
                  obtain ⟨wb, hwb⟩ : ∃ wb, wb = wa.alloc (.cells #[.int .u8 0, .int .u8 0, .int .u16 (flg 0), .int .u32 k, .int .u32 2, .slice (some ⟨g, 0, none⟩) 2 2] 46) := ⟨_, rfl⟩
                  have kb : Keeps Nowhere wa wb := by rw [hwb]; exact (Keeps.refl _ _).alloc _
                  have y3 : wb.cell? ⟨b9, 3, none⟩ = some (.int .u32 k) := by rw [hwb, hb9]; exact (Cells.new wa 46 [.int .u8 0, .int .u8 0, .int .u16 (flg 0), .int .u32 k, .int .u32 2, .slice (some ⟨g, 0, none⟩) 2 2]).cell 3
                  have Fb : Aside (Fi A w s [] m (t ++ [k]) (.slice ta ([] : List Tk).length tc) [] (.slice ua (k :: t).length uc) (k :: t) owna wb) := ⟨((F8.it.idle q9.it).step qa.it (fun x => by have := x.2; omega) (fun x => by have := x.2; omega) La.it).idle (Sn.same kb)⟩
                  have db := da.it.quiet kb
                  obtain ⟨va, hva, hra⟩ := db.ab
                  obtain ⟨aa, ac, rfl, _, _, hca⟩ := owns_rdU hra.1
                  obtain ⟨ag, ao, rfl, y1⟩ := hca 0 k rfl
                  have y0 : wb.cell? ⟨ab, 0, none⟩ = some (.slice (some ⟨ag, ao, none⟩) 1 ac) := hva.1.cell 0
                  rw [Nat.add_zero] at y1
                  obtain ⟨tb, tc', et, _, _, hct⟩ := owns_rdU Fb.it.tu.1
                  injection et with et1 et2 et3
                  subst et1 et3
                  obtain ⟨tg, to', rfl, y2⟩ := hct 0 k rfl
                  rw [Nat.add_zero] at y2
                  rw [← hb9, ← hwb]
                  clear hb9 hwb kb db hva hra hca hct et2 La qa da d9 q9 ND DA F8
                  simp only [List.length_cons, List.length_nil] at hkq Fb
                  try simp only [List.length_cons, List.length_nil]
                  obtain ⟨n2, hn2⟩ : ∃ n2, n2 = t.length := ⟨_, rfl⟩
                  rw [← hn2] at hkq Fb ⊢
                  have HN := Aside.mk hn2
                  have p1 : (0 : Int) < (n2 : Int) + 1 := by omega
                  clear hn2
                  go_upto_region 24 with fail
                  go_quiet (fail)
                  go_wp2_with fail
                  go_roundw
                  case rel => exact ⟨q + 1, m, [], t ++ [k], owna, by go_num, by omega, ⟨Fb.it.sc.quiet ((Keeps.refl _ _).drewN _)⟩, ⟨by have := K3.it.1; omega, by have := K3.it.2; simp at this ⊢; omega⟩⟩
                  case measure => simp [intOf]; omega
                | nil =>
                  have ND := Aside.mk (fun cb ob own9 w9 (q9 : Sn (fun _ => False) own8 w8 own9 w9) (d9 : Dt w own9 w9 cb ob ab [] (.slice none 0 0) (.slice none 0 0) [] []) => nextD0 (F8.it.idle q9).sc d9 (by simp) (by simp))
                  go_upto_region 18 with (first
                    | (go_at_call 12; refine (ND.it cb ob own9 w9 q9.it d9.it).mono ?_; rintro e wa ⟨owna, rfl, La, da, qa⟩)
                    | (go_at_call 13; refine DA.it.mono ?_; rintro e w9 ⟨cb, ob, own9, rfl, d9, q9⟩)
                    | fail)
                  have kb : Keeps Nowhere wa (wa.alloc (.cells #[.int .u8 0, .int .u8 0, .int .u16 0, .int .u32 0, .int .u32 0, .slice none 0 0] 46)) := (Keeps.refl _ _).alloc _
                  have Lb : Aside (Sc A w owna (wa.alloc (.cells #[.int .u8 0, .int .u8 0, .int .u16 0, .int .u32 0, .int .u32 0, .slice none 0 0] 46)) s [] m []) := ⟨La.it.quiet kb⟩
                  have db := da.it.quiet kb
                  obtain ⟨va, hva, hra⟩ := db.ab
                  have y0 := hva.1.cell 0
                  clear kb db hva hra La qa da d9 q9 ND DA F8
                  try simp only [List.length_nil]
                  go_upto_region 24 with fail
                  go_quiet (fail)
                  go_wp2_with fail
                  go_roundw
                  case rel => exact ⟨q + 1, m, [], [], owna, by go_num, by omega, ⟨Lb.it.quiet ((Keeps.refl _ _).drewN _)⟩, ⟨by have := K3.it.1; omega, by simp⟩⟩
                  case measure => simp [intOf]; omega
          · have e6 : ¬ kind = 6 := fun e => e67 (.inl e)
            have e7 : ¬ kind = 7 := fun e => e67 (.inr e)
            clear C5 e67
            go_wp2_with fail
            go_roundw
            case rel => exact ⟨q + 1, m, L, ks, own3, by go_num, by omega, L5, ⟨by have := K3.it.1; omega, by have := K3.it.2; omega⟩⟩
            case measure => simp [intOf]; omega
    · obtain rfl : q = M := by omega
      go_wp2_with fail
      go_ret
      exact ⟨rfl, L3.it.bel⟩
end Go.Proofs.YthlblimocfefpaaDoor

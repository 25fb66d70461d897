/-
  RingMemory: the walk
-/
import Derived.Test.YtkmijhfimkcoiaaDoorRmD
import Derived.Deep.DeepCutAuto
namespace Go.Proofs.YtkmijhfimkcoiaaDoor
open Go.RowKit Rint
attribute [-go_sem] Builtin.append_

set_option maxHeartbeats 20000000 in
set_option maxRecDepth 100000 in
theorem ringMemory_walk {A : Nat → Addr} (script : Value) (ops : List OpV) (n : Int) (w : World) (hs : Sents 83 codeVars A w) (ho : OpsAt2 w script ops) :
    Calls Tryd.prog 3 #[script, .int .i64 n] w fun e w' => e = .returned (.bool true) ∧ Below w.heap.size w w' := by
  obtain ⟨oa, oc, rfl, hoc, hom, hops⟩ := ho
  obtain ⟨no, hno⟩ : ∃ no, no = ops.length := ⟨_, rfl⟩
  rw [← hno] at hoc ⊢
  have OPS : Aside _ := ⟨hops⟩
  have NO : Aside _ := ⟨hno⟩
  have HS : Aside _ := ⟨hs⟩
  have hno1 : no ≤ 9223372036854775807 := Nat.le_trans hoc hom
  clear hops hno hs
  go_enter Tryd.func3, Tryd.ntmps3
  go_wp2_with fail
  refine (fixed_ok w).mono ?_
  rintro e w1 ⟨rfl, b1⟩
  have B1 : Aside _ := ⟨b1⟩
  clear b1
  go_wp2_with fail
  refine (begin_ok w.heap.size w w1 B1.it B1.it.size).mono ?_
  rintro e w2 ⟨p, rfl, hpl⟩
  have P2 : Aside _ := ⟨hpl⟩
  clear hpl B1
  go_upto_region 7 with fail
  go_loopw [37] (fun x wr => ∃ k : Nat, k ≤ no ∧ x = .int .i64 k ∧ ∃ R C L V own, PlayAt w.heap.size w NoneKept p R C L V own wr) (fun x _ => no - (intOf x).toNat)
  case atStart => exact ⟨0, Nat.zero_le _, rfl, P2.it⟩
  case round =>
    obtain ⟨k, hk, rfl, R, C, L, V, own, hpl⟩ := hrel
    have PL : Aside _ := ⟨hpl⟩
    clear hpl P2
    by_cases hkn : k < no
    · obtain ⟨op, hop⟩ : ∃ op, ops[k]? = some op := ⟨_, List.getElem?_eq_getElem (by have := NO.it; omega)⟩
      obtain ⟨xb, xo, s, rfl, c0, c1, c2, c3, hrd, hnl, hsz⟩ := OPS.it k op hop
      have d0 := PL.it.ground.cell rfl c0
      have d1 := PL.it.ground.cell rfl c1
      have d2 := PL.it.ground.cell rfl c2
      have d3 := PL.it.ground.cell rfl c3
      have RD : Aside _ := ⟨hrd⟩
      have NL : Aside _ := ⟨hnl⟩
      have SZ : Aside _ := ⟨hsz⟩
      obtain ⟨sa, sc, hse, hsc, _⟩ := hrd
      obtain ⟨m, hm⟩ : ∃ m, m = (iv op.items).length := ⟨_, rfl⟩
      rw [← hm] at hse hsc
      subst hse
      have HM : Aside (op.items.length = m) := ⟨by rw [hm, iv_length]⟩
      clear c0 c1 c2 c3 hop hm hnl hsz
      go_upto_region 9 with fail
      obtain ⟨w4, hw4⟩ : ∃ w4, w4 = wr.alloc (.cells [.int .i64 op.kind, .int .i64 op.at', .int .i64 op.n, .slice sa m sc].toArray 29) := ⟨_, rfl⟩
      have ew : wr.alloc (.cells #[.int .i64 op.kind, .int .i64 op.at', .int .i64 op.n, .slice sa m sc] 29) = w4 := hw4.symm
      rw [ew]
      have ka : Keeps Nowhere wr w4 := by rw [hw4]; exact (Keeps.refl _ _).alloc _
      obtain ⟨bo, hbo⟩ : ∃ bo, bo = wr.heap.size := ⟨_, rfl⟩
      have C4 : Aside (Cells w4 bo 29 [.int .i64 op.kind, .int .i64 op.at', .int .i64 op.n, .slice sa m sc]) := ⟨by rw [hw4, hbo]; exact Cells.new wr _ _⟩
      have P4 : Aside (PlayAt w.heap.size w (OpKept bo [.int .i64 op.kind, .int .i64 op.at', .int .i64 op.n, .slice sa m sc]) p R C L V (give own wr.heap.size 30) w4) := ⟨(PL.it.two.fresh ka 30).one.keepLess (by
        rintro g e cs ⟨rfl, rfl, rfl⟩
        exact ⟨C4.it, by rw [hbo]; exact give_new (Nat.le_refl _)⟩)⟩
      rw [← hbo]
      generalize give own wr.heap.size 30 = own4 at P4
      clear hw4 ew ka hbo PL d0 d1 d2 d3
      have x0 : w4.cell? ⟨bo, 0, none⟩ = some (.int .i64 op.kind) := by rw [C4.it.cell]; rfl
      have x1 : w4.cell? ⟨bo, 1, none⟩ = some (.int .i64 op.at') := by rw [C4.it.cell]; rfl
      have x2 : w4.cell? ⟨bo, 2, none⟩ = some (.int .i64 op.n) := by rw [C4.it.cell]; rfl
      have x3 : w4.cell? ⟨bo, 3, none⟩ = some (.slice sa m sc) := by rw [C4.it.cell]; rfl
      go_cut [9] (fun x wx => (∃ i : Nat, i < 4 ∧ x = .int .i64 i) ∧ w4 = wx)
      · go_wp2
        go_meet
        obtain ⟨i, hi, e⟩ := idx_lt op.at'
        exact ⟨⟨i, hi, by rw [← e]⟩, rfl⟩
      obtain ⟨⟨i, hi, rfl⟩, rfl⟩ := hcut
      by_cases q1 : op.kind = 1
      · rw [q1] at x0
        as_aux_lemma =>
          have hm8 : m * 8 ≤ 140737488351232 := by have := SZ.it; have := HM.it; omega
          have MK := run_make0 m hm8
          have hw3 : IntKind.i64.wrap ((m : Int) + 3) = (m : Int) + 3 := by rw [IntKind.wrap_i64]; omega
          have S0 : Aside (ReadsOff Nowhere w4 (.slice sa m sc) (iv op.items) ∧ NilOk (.slice sa m sc)) := ⟨(P4.it.ground.reads (i := 5) RD.it rfl (by decide)).mono (fun _ x _ => x.elim), NL.it⟩
          have HI : Aside ((0 + (iv op.items).length) * 8 ≤ 140737488355328) := ⟨by rw [iv_length, HM.it]; omega⟩
          have KD : Aside (Keeps Nowhere w4 w4.drew) := ⟨(Keeps.refl _ _).drew⟩
          go_upto_region 13 with fail
          obtain ⟨n3, hn3⟩ : ∃ n3, n3 = m + 3 := ⟨_, rfl⟩
          have HN3 := Aside.mk hn3
          clear hn3
          go_cut [10] (fun x wx => ∃ g c : Nat, x = .slice (some ⟨g, 0, none⟩) n3 c ∧ Aside (n3 ≤ c ∧ Bd w4 wx (.slice (some ⟨g, 0, none⟩) n3 c) n3 (iv (op.items ++ lit3))))
          · have HX := Aside.mk (C4.it.lt)
            have MA : Aside (Bd w4 (w4.alloc (.cells (zz (m + 3)).toArray 3)).drew (.slice (some ⟨w4.heap.size, 0, none⟩) 0 (m + 3)) 0 []) := ⟨(made_bd m hm8 (Keeps.refl _ _)).quiet (Keeps.refl _ _).drew⟩
            have MB : Aside (Bd w4 ((w4.alloc (.cells (zz (m + 3)).toArray 3)).alloc (.cells #[.int .i64 (-91), .int .i64 (-92), .int .i64 (-93)] 3)).drew (.slice (some ⟨w4.heap.size, 0, none⟩) 0 (m + 3)) 0 []) := ⟨(made_bd m hm8 (Keeps.refl _ _)).quiet ((Keeps.refl _ _).alloc _).drew⟩
            have MC : Aside (Bd w4 ((w4.alloc (.cells #[.int .i64 (-91), .int .i64 (-92), .int .i64 (-93)] 3)).alloc (.cells (zz (m + 3)).toArray 3)).drew (.slice (some ⟨w4.heap.size + 1, 0, none⟩) 0 (m + 3)) 0 []) := ⟨by
              have := (made_bd (W := w4.alloc (.cells #[.int .i64 (-91), .int .i64 (-92), .int .i64 (-93)] 3)) m hm8 ((Keeps.refl Nowhere w4).alloc _)).quiet (Keeps.refl _ _).drew
              rw [World.size_alloc] at this
              exact this⟩
            have CB : Aside (Cells ((w4.alloc (.cells (zz (m + 3)).toArray 3)).alloc (.cells #[.int .i64 (-91), .int .i64 (-92), .int .i64 (-93)] 3)).drew (w4.heap.size + 1) 3 (iv lit3)) := ⟨by
              have := (Cells.new (w4.alloc (.cells (zz (m + 3)).toArray 3)) 3 (iv lit3)).drew
              rw [World.size_alloc] at this
              exact this⟩
            have CC : Aside (Cells ((w4.alloc (.cells #[.int .i64 (-91), .int .i64 (-92), .int .i64 (-93)] 3)).alloc (.cells (zz (m + 3)).toArray 3)).drew w4.heap.size 3 (iv lit3)) := ⟨(Cells.new w4 3 (iv lit3)).later (S := Nowhere) ((Keeps.refl _ _).alloc _).drew (fun x => x)⟩
            have SA : Aside (∀ W, Keeps Nowhere w4 W → ReadsOff Nowhere W (.slice sa m sc) (iv op.items) ∧ NilOk (.slice sa m sc)) := ⟨fun W hk => ⟨(S0.it.1.later hk).mono (fun _ x _ => x.elim), S0.it.2⟩⟩
            go_region_held3 (fun w' => w'.cell? ⟨bo, 3, none⟩ = some (.slice sa m sc)) (first | go_keep | (rw [World.cell?_of_block (O2.it.k.block _ HX.it (fun x => x))]; assumption) | (rw [World.cell?_of_block (O1.it.k.block _ HX.it (fun x => x))]; assumption))
              (first
                | ((refine step_bd 60 (by rfl) (by rfl) (.tmp 57) (.tmp 59) (by rfl) MA.it (.slice sa m sc) (iv op.items) (SA.it _ MA.it.k) (iv_one _) HI.it rfl (by rfl) (by rfl) ?_; intro v1 w1 O1 K1))
                | ((refine step_bd 60 (by rfl) (by rfl) (.tmp 57) (.tmp 59) (by rfl) MB.it (.slice sa m sc) (iv op.items) (SA.it _ MB.it.k) (iv_one _) HI.it rfl (by rfl) (by rfl) ?_; intro v1 w1 O1 K1))
                | ((refine step_bd 60 (by rfl) (by rfl) (.tmp 57) (.tmp 59) (by rfl) MC.it (.slice sa m sc) (iv op.items) (SA.it _ MC.it.k) (iv_one _) HI.it rfl (by rfl) (by rfl) ?_; intro v1 w1 O1 K1))
                | ((refine step_bd 62 (by rfl) (by rfl) (.tmp 60) (.tmp 61) (by rfl) (O1.it.quiet ((Keeps.refl _ _).alloc _)) (.slice (some ⟨_, 0, none⟩) 3 3) (iv lit3) (lit_reads (Cells.new _ _ _)) (iv_one _) (by have := HM.it; simp [iv_length]; omega) (by simp [iv_length]) (by rfl) (by rfl) ?_; intro v2 w2 O2 K2))
                | ((refine step_bd 62 (by rfl) (by rfl) (.tmp 60) (.tmp 61) (by rfl) O1.it (.slice (some ⟨_, 0, none⟩) 3 3) (iv lit3) (lit_reads (CB.it.later K1.it (fun e => by simp [Value.ownBlock] at e))) (iv_one _) (by have := HM.it; simp [iv_length]; omega) (by simp [iv_length]) (by rfl) (by rfl) ?_; intro v2 w2 O2 K2))
                | ((refine step_bd 62 (by rfl) (by rfl) (.tmp 60) (.tmp 61) (by rfl) O1.it (.slice (some ⟨_, 0, none⟩) 3 3) (iv lit3) (lit_reads (CC.it.later K1.it (fun e => by simp [Value.ownBlock] at e))) (iv_one _) (by have := HM.it; simp [iv_length]; omega) (by simp [iv_length]) (by rfl) (by rfl) ?_; intro v2 w2 O2 K2)))
            all_goals
              go_wp2
              go_meet
              exact bd_end O2.it HM.it HN3.it
          obtain ⟨w5, rfl⟩ : ∃ w5, w5 = wc := ⟨_, rfl⟩
          obtain ⟨g, c, rfl, BB⟩ := hcut
          have P5 : Aside (Mp w.heap.size w (OpKept bo [.int .i64 op.kind, .int .i64 op.at', .int .i64 op.n, .slice sa m sc]) p R C L L V (.slice (some ⟨g, 0, none⟩) n3 c) (op.items ++ lit3) (give own4 w4.heap.size 41) w5) := ⟨Mp.begin P4.it.two (by rw [List.length_append, HM.it, show m + lit3.length = n3 from HN3.it.symm]; exact BB.it.2)⟩
          have hc3 : n3 ≤ c := BB.it.1
          have j0 : (m : Int) < (n3 : Int) := by have := HN3.it; omega
          have j1 : (m : Int) + 1 < (n3 : Int) := by have := HN3.it; omega
          have j2 : (m : Int) + 2 < (n3 : Int) := by have := HN3.it; omega
          have j3 : (0 : Int) ≤ (m : Int) + 1 := by omega
          have j4 : (0 : Int) ≤ (m : Int) + 2 := by omega
          generalize give own4 w4.heap.size 41 = own5 at P5
          clear P4 C4 x0 x1 x2 x3 S0 HI KD MK hw3 BB
          have x3 : w5.cell? ⟨bo, 3, none⟩ = some (.slice sa m sc) := by rw [(P5.it.pl.kept bo _ _ ⟨rfl, rfl, rfl⟩).1.cell]; rfl
          obtain ⟨c1, c2, c3⟩ := P5.it.pl.one.at3 i hi
          have hrow := P5.it.pl.row i hi
          obtain ⟨va, vc, hve, hvc, _⟩ := hrow.1
          rw [iv_length] at hve hvc
          obtain ⟨ml, hml⟩ : ∃ ml, ml = (L i).length := ⟨_, rfl⟩
          rw [← hml] at hve hvc
          rw [hve] at c3 hrow
          have VE : Aside _ := ⟨hve⟩
          have HML : Aside _ := ⟨hml⟩
          have CL := L31 P5.it.pl i hi
          rw [← hml] at CL
          have RV : Aside _ := ⟨hrow⟩
          obtain ⟨t, ht⟩ : ∃ t, t = Nat.min op.items.length (C i - (L i).length) := ⟨_, rfl⟩
          obtain ⟨m4, hm4⟩ : ∃ m4, (L i ++ op.items.take (C i - (L i).length)).length = m4 := ⟨_, rfl⟩
          have PU : Aside (∀ W, Keeps Nowhere w5 W → Calls Tryd.prog 7 #[.agg #[.int .i64 (C i), .slice va ml vc], .slice sa m sc] W fun e w' => ∃ (a4 : Option Addr) (c4 : Nat), e = .returned (.tuple #[.agg #[.int .i64 (C i), .slice a4 m4 c4], .int .i64 t]) ∧ Aside (ReadsOff (fun k => k < W.heap.size) w' (.slice a4 m4 c4) (iv (L i ++ op.items.take (C i - (L i).length))) ∧ NilOk (.slice a4 m4 c4) ∧ Keeps Nowhere W w') ∧ w'.cell? ⟨p, 4 + i * 2, none⟩ = some (.int .i64 (C i)) ∧ w'.cell? ⟨p, 4 + i * 2 + 1, none⟩ = some (.slice va ml vc) ∧ w'.cell? ⟨bo, 3, none⟩ = some (.slice sa m sc)) := ⟨fun W hk => (refPush_ok W (C i) _ (L i) op.items _ (RV.it.quiet hk).plain RV.it.2 (((P5.it.quiet hk).pl.ground.reads (i := 5) RD.it rfl (by decide)).mono (fun _ x _ => x.elim)) NL.it (by rw [← HML.it]; exact CL.1) CL.2 (by rw [HM.it]; omega) t ht).mono (by
            rintro e w' ⟨v', rfl, r, n, k⟩
            have kk := hk.trans k
            have cc : ∀ a v, w5.cell? a = some v → w'.cell? a = some v := fun a v hc => by rw [World.cell?_of_block (w := w5) (kk.block _ (World.block_lt_of_cell? w5 _ hc) (fun x => x))]; exact hc
            obtain ⟨a4, c4, e4, _⟩ := id r
            rw [iv_length, hm4] at e4
            subst e4
            exact ⟨a4, c4, rfl, ⟨r, n, k⟩, cc _ _ c2, cc _ _ c3, cc _ _ x3⟩)⟩
          have PV : Aside (Calls Tryd.prog 7 #[.agg #[.int .i64 (C i), .slice va ml vc], .slice sa m sc] (w5.alloc (.cells #[.int .i64 0, .slice none 0 0] 32)).drew fun e w' => ∃ (a4 : Option Addr) (c4 : Nat), e = .returned (.tuple #[.agg #[.int .i64 (C i), .slice a4 m4 c4], .int .i64 t]) ∧ Aside (ReadsOff (fun k => k < (w5.alloc (.cells #[.int .i64 0, .slice none 0 0] 32)).heap.size) w' (.slice a4 m4 c4) (iv (L i ++ op.items.take (C i - (L i).length))) ∧ NilOk (.slice a4 m4 c4) ∧ Keeps Nowhere (w5.alloc (.cells #[.int .i64 0, .slice none 0 0] 32)).drew w') ∧ (w'.cell? ⟨p, 4 + i * 2, none⟩ = some (.int .i64 (C i)) ∧ w'.cell? ⟨p, 4 + i * 2 + 1, none⟩ = some (.slice va ml vc) ∧ w'.cell? ⟨bo, 3, none⟩ = some (.slice sa m sc)) ∧ w'.cell? ⟨w5.heap.size, 0, none⟩ = some (.int .i64 0) ∧ w'.cell? ⟨w5.heap.size, 1, none⟩ = some (.slice none 0 0) ∧ w'.frozen? ⟨w5.heap.size, 0, none⟩ = false ∧ w'.frozen? ⟨w5.heap.size, 1, none⟩ = false) := ⟨(PU.it _ ((Keeps.refl _ _).alloc _).drew).mono (by
            rintro e w' ⟨a4, c4, rfl, r, ss⟩
            have cc := ((Cells.new w5 32 [.int .i64 0, .slice none 0 0]).drew).later r.it.2.2 (fun x => x)
            exact ⟨a4, c4, rfl, r, ss, by rw [cc.cell]; rfl, by rw [cc.cell]; rfl, cc.frozen 0, cc.frozen 1⟩)⟩
          have HT : Aside _ := ⟨ht⟩
          have hi0 : (0 : Int) ≤ (i : Int) := by omega
          have hi4 : (i : Int) < 4 := by omega
          have HM4 := Aside.mk hm4
          have HX := Aside.mk (And.intro (World.block_lt_of_cell? w5 _ c2) (World.block_lt_of_cell? w5 _ x3))
          have np1 : p ≠ w5.heap.size := by have := HX.it.1; simp only at this; omega
          have np2 : bo ≠ w5.heap.size := by have := HX.it.2; simp only at this; omega
          have np3 := np1.symm
          have np4 := np2.symm
          clear hrow hve hml ht hm4
          go_upto_region 15 with fail
          go_cut [12, 13] (fun x12 x13 wx => ∃ (bn : Nat) (a4 : Option Addr) (c4 : Nat), x12 = ptr bn ∧ x13 = .int .i64 t ∧ Aside (Cells wx bn 32 [.int .i64 (C i), .slice a4 m4 c4] ∧ w5.heap.size ≤ bn ∧ ReadsOff (fun k => k < w5.heap.size) wx (.slice a4 m4 c4) (iv (L i ++ op.items.take (C i - (L i).length))) ∧ NilOk (.slice a4 m4 c4) ∧ Keeps Nowhere w5 wx))
          · go_region_held3 (fun w' => w'.cell? ⟨p, 4 + i * 2, none⟩ = some (.int .i64 (C i)) ∧ w'.cell? ⟨p, 4 + i * 2 + 1, none⟩ = some (.slice va ml vc) ∧ w'.cell? ⟨bo, 3, none⟩ = some (.slice sa m sc)) (first | go_keep)
              (first
                | (go_at_call 7; with_reducible refine PV.it.mono ?_; rintro e w6 ⟨a6, c6, rfl, r6, ⟨y1, y2, y3⟩, z1, z2, z3, z4⟩)
                | (go_at_call 7; with_reducible refine (PU.it w5.drew (Keeps.refl _ _).drew).mono ?_; rintro e w6 ⟨a6, c6, rfl, r6, y1, y2, y3⟩))
            all_goals
              go_wp2
              go_meet
              first
                | exact ⟨_, a6, c6, rfl, rfl, now_a r6.it⟩
                | exact ⟨_, a6, c6, rfl, rfl, now_b r6.it rfl⟩
          obtain ⟨w6, rfl⟩ : ∃ w6, w6 = wc := ⟨_, rfl⟩
          obtain ⟨bn, a4, c4, rfl, rfl, NW⟩ := hcut
          have P6 : Aside (Mp w.heap.size w (OpKept bo [.int .i64 op.kind, .int .i64 op.at', .int .i64 op.n, .slice sa m sc]) p R C L L V (.slice (some ⟨g, 0, none⟩) n3 c) (op.items ++ lit3) (give own5 w5.heap.size (20 + i)) w6) := ⟨P5.it.sn (I := fun _ => False) (Sn.quiet NW.it.2.2.2.2 _) (fun _ _ x => x)⟩
          have R6 : Aside (ReadsO (give own5 w5.heap.size (20 + i)) (20 + i) w6 (.slice a4 m4 c4) (iv (L i ++ op.items.take (C i - (L i).length)))) := ⟨fresh_reads (20 + i) NW.it.2.2.1 NW.it.2.2.2.1⟩
          have B6 : Aside (CellsO (give own5 w5.heap.size (20 + i)) (20 + i) w6 bn 32 [.int .i64 (C i), .slice a4 m4 c4]) := ⟨⟨NW.it.1, give_new NW.it.2.1⟩⟩
          generalize give own5 w5.heap.size (20 + i) = own6 at P6 R6 B6
          clear P5 PU PV c1 c2 c3 x3 np1 np2 np3 np4 HX RV VE NW CL hvc
          have x3 : w6.cell? ⟨bo, 3, none⟩ = some (.slice sa m sc) := by rw [(P6.it.pl.kept bo _ _ ⟨rfl, rfl, rfl⟩).1.cell]; rfl
          obtain ⟨r0, _, _⟩ := P6.it.pl.one.at3 i hi
          have hl3 : (op.items ++ lit3).length = n3 := by rw [List.length_append, HM.it]; exact HN3.it.symm
          have WH : Aside (∀ (own : Nat → Nat) (W : World), OwR own 41 W 3 1 (.slice (some ⟨g, 0, none⟩) n3 c) (op.items ++ lit3).length (iv (op.items ++ lit3)) → W.cell? ⟨g, m, none⟩ = some (.int .i64 (-91)) ∧ W.cell? ⟨g, m + 1, none⟩ = some (.int .i64 (-92)) ∧ W.cell? ⟨g, m + 2, none⟩ = some (.int .i64 (-93))) := ⟨by
            intro own W hw
            have h0 := HM.it
            have at3 : ∀ j, j < 3 → (op.items ++ lit3)[m + j]? = lit3[j]? := fun j _ => by rw [← h0, List.getElem?_append_right (by omega), Nat.add_sub_cancel_left]
            have one : ∀ j y, j < 3 → lit3[j]? = some y → W.cell? ⟨g, m + j, none⟩ = some (.int .i64 y) := fun j y hj hy => by
              obtain ⟨b, c', e, hce⟩ := wh_cell hw (j := m + j) (y := y) (by rw [at3 j hj]; exact hy)
              injection e with e1
              injection e1 with e1
              injection e1 with e1
              subst e1
              exact hce
            exact ⟨one 0 _ (by decide) rfl, one 1 _ (by decide) rfl, one 2 _ (by decide) rfl⟩⟩
          obtain ⟨y0, y1, y2⟩ := WH.it _ _ P6.it.wh
          have PS : Aside (Calls Tryd.prog 8 #[R i, .slice (some ⟨g, 0, none⟩) m c] w6.drew fun e w' => ∃ own', e = .returned (.int .i64 t) ∧ Aside (Mp w.heap.size w (OpKept bo [.int .i64 op.kind, .int .i64 op.at', .int .i64 op.n, .slice sa m sc]) p R C (upd L i (L i ++ op.items.take (C i - (L i).length))) L V (.slice (some ⟨g, 0, none⟩) n3 c) (op.items ++ lit3) own' w') ∧ Aside (Sn (fun q => q = 10 + i) own6 w6 own' w') ∧ w'.cell? ⟨p, i, none⟩ = some (R i) ∧ w'.cell? ⟨bo, 3, none⟩ = some (.slice sa m sc) ∧ w'.cell? ⟨g, m, none⟩ = some (.int .i64 (-91)) ∧ w'.cell? ⟨g, m + 1, none⟩ = some (.int .i64 (-92)) ∧ w'.cell? ⟨g, m + 2, none⟩ = some (.int .i64 (-93))) := ⟨by
            have hq := P6.it.quiet (Keeps.refl _ _).drew
            have hw := hq.wh
            rw [← hl3] at hw
            have rr : ReadsOff (fun k => own6 k = 10 + i) w6.drew (.slice (some ⟨g, 0, none⟩) m c) (iv op.items) := wh_reads hw HM.it (by omega) (fun k e => by omega)
            have hx := mp_push hq i hi _ op.items rr (by rw [HM.it]; omega)
            rw [← HT.it] at hx
            refine hx.mono ?_
            rintro e w' ⟨own', rfl, q1, q2⟩
            obtain ⟨z0, z1, z2⟩ := WH.it _ _ q1.it.wh
            have zb : w'.cell? ⟨bo, 3, none⟩ = some (.slice sa m sc) := by rw [(q1.it.pl.kept bo _ _ ⟨rfl, rfl, rfl⟩).1.cell]; rfl
            exact ⟨own', rfl, q1, ⟨(Sn.same (Keeps.refl _ _).drew).trans q2.it⟩, (q1.it.pl.cells.1.cell i).trans (wcells_at R C V i hi).1, zb, z0, z1, z2⟩⟩
          have hmc : (m : Int) ≤ (c : Int) := by omega
          have hm0 : (0 : Int) ≤ (m : Int) := by omega
          have hmb : (m : Int) ≤ 17592186043904 := by omega
          have hw1 : IntKind.i64.wrap ((m : Int) + 1) = (m : Int) + 1 := by rw [IntKind.wrap_i64]; omega
          have hw2 : IntKind.i64.wrap ((m : Int) + 2) = (m : Int) + 2 := by rw [IntKind.wrap_i64]; omega
          have et : ((t : Int) != (t : Int)) = false := by simp
          have tn1 : ((m : Int) + 1).toNat = m + 1 := by omega
          have tn2 : ((m : Int) + 2).toNat = m + 2 := by omega
          have SM : Aside (∀ (own : Nat → Nat) (W : World), Mp w.heap.size w (OpKept bo [.int .i64 op.kind, .int .i64 op.at', .int .i64 op.n, .slice sa m sc]) p R C (upd L i (L i ++ op.items.take (C i - (L i).length))) L V (.slice (some ⟨g, 0, none⟩) n3 c) (op.items ++ lit3) own W → Calls Tryd.prog 9 #[.slice (some ⟨g, 0, none⟩) m c, .slice sa m sc] W fun e w' => e = .returned (.bool true) ∧ Aside (Keeps Nowhere W w') ∧ w'.cell? ⟨p, i, none⟩ = some (R i) ∧ w'.cell? ⟨bo, 3, none⟩ = some (.slice sa m sc) ∧ w'.cell? ⟨g, m, none⟩ = some (.int .i64 (-91)) ∧ w'.cell? ⟨g, m + 1, none⟩ = some (.int .i64 (-92)) ∧ w'.cell? ⟨g, m + 2, none⟩ = some (.int .i64 (-93))) := ⟨by
            intro own W hM
            have hw := hM.wh
            rw [← hl3] at hw
            have rr : ReadsOff Nowhere W (.slice (some ⟨g, 0, none⟩) m c) (iv op.items) := wh_reads hw HM.it (by omega) (fun k _ x => x)
            refine (same_eq W _ _ op.items rr ((hM.pl.ground.reads (i := 5) RD.it rfl (by decide)).mono (fun _ x _ => x.elim)) (by rw [HM.it]; omega)).mono ?_
            rintro e w' ⟨rfl, k⟩
            have q1 := hM.quiet k
            obtain ⟨z0, z1, z2⟩ := WH.it _ _ q1.wh
            have zb : w'.cell? ⟨bo, 3, none⟩ = some (.slice sa m sc) := by rw [(q1.pl.kept bo _ _ ⟨rfl, rfl, rfl⟩).1.cell]; rfl
            exact ⟨rfl, ⟨k⟩, (q1.pl.cells.1.cell i).trans (wcells_at R C V i hi).1, zb, z0, z1, z2⟩⟩
          go_upto_region 16 with fail
          go_region_held3 (fun w' => w'.cell? ⟨p, i, none⟩ = some (R i) ∧ w'.cell? ⟨bo, 3, none⟩ = some (.slice sa m sc) ∧ w'.cell? ⟨g, m, none⟩ = some (.int .i64 (-91)) ∧ w'.cell? ⟨g, m + 1, none⟩ = some (.int .i64 (-92)) ∧ w'.cell? ⟨g, m + 2, none⟩ = some (.int .i64 (-93))) (first | go_keep)
            (first
              | (go_at_call 8; with_reducible refine PS.it.mono ?_; rintro e w7 ⟨own7, rfl, P7, S7, _, _, _, _, _⟩)
              | (go_at_call 9; with_reducible refine (SM.it own7 _ P7.it).mono ?_; rintro e w8 ⟨rfl, K8, _, _, _, _, _⟩))
          have P8 := Aside.mk (P7.it.quiet K8.it)
          have R8 := Aside.mk ((R6.it.sn S7.it (by omega)).sn (I := fun _ => False) (Sn.same K8.it) (fun x => x))
          have B8 := Aside.mk ((B6.it.sn S7.it (by omega)).sn (I := fun _ => False) (Sn.same K8.it) (fun x => x))
          clear P6 R6 B6 P7 S7 K8 PS SM x3 r0 y0 y1 y2 et
          obtain ⟨z0, z1⟩ := refCells B8.it.1
          obtain ⟨_, c2, c3⟩ := P8.it.pl.one2 i hi
          have f2 := P8.it.pl.cells.1.frozen (4 + i * 2)
          have f3 := P8.it.pl.cells.1.frozen (4 + i * 2 + 1)
          have hne : bn ≠ p := fun e => by have h1 := B8.it.2; have h2 := P8.it.pl.cells.2; rw [e] at h1; omega
          have hne' := hne.symm
          have P9 : Aside (Mp w.heap.size w (OpKept bo [.int .i64 op.kind, .int .i64 op.at', .int .i64 op.n, .slice sa m sc]) p R C (upd L i (L i ++ op.items.take (C i - (L i).length))) (upd L i (L i ++ op.items.take (C i - (L i).length))) (upd V i (.slice a4 m4 c4)) (.slice (some ⟨g, 0, none⟩) n3 c) (op.items ++ lit3) own7 ((w8.setCell ⟨p, 4 + i * 2, none⟩ (.int .i64 (C i))).setCell ⟨p, 4 + i * 2 + 1, none⟩ (.slice a4 m4 c4)).drew) := ⟨by
            have h1 := P8.it.pl.setModel i hi (C i) _ _ R8.it
            rw [upd_self] at h1
            have s1 : Sn (fun q => q = 7) own7 w8 own7 ((w8.setCell ⟨p, 4 + i * 2, none⟩ (.int .i64 (C i))).setCell ⟨p, 4 + i * 2 + 1, none⟩ (.slice a4 m4 c4)) := ⟨fun _ _ => rfl, ((Keeps.refl _ _).setCell _ _ (fun _ => P8.it.pl.cells.2)).setCell _ _ (fun _ => P8.it.pl.cells.2)⟩
            exact Mp.quiet ⟨h1, P8.it.wh.sn s1 (by decide)⟩ (Keeps.refl _ _).drew⟩
          clear P8 R8 B8
          go_upto_region 18 with fail
          go_region_held3 (fun w' => w'.cell? ⟨bn, 0, none⟩ = some (.int .i64 (C i)) ∧ w'.cell? ⟨bn, 1, none⟩ = some (.slice a4 m4 c4)) (first | go_keep) (fail)
          generalize ((w8.setCell ⟨p, 4 + i * 2, none⟩ (.int .i64 (C i))).setCell ⟨p, 4 + i * 2 + 1, none⟩ (.slice a4 m4 c4)).drew = w9 at P9 ⊢
          clear z0 z1 c2 c3 f2 f3 hne hne'
          generalize upd L i (L i ++ op.items.take (C i - (L i).length)) = L9 at P9
          generalize upd V i (.slice a4 m4 c4) = V9 at P9
          have hc9 : (n3 : Int) ≤ (c : Int) := by omega
          have hn9 : (n3 : Int) ≤ 17592186043907 := by have := HN3.it; omega
          go_upto_region 20 with fail
          go_loopw [130] (fun jv wr => ∃ (j : Nat), jv = .int .i64 j ∧ j ≤ n3 ∧ Aside (Mp w.heap.size w (OpKept bo [.int .i64 op.kind, .int .i64 op.at', .int .i64 op.n, .slice sa m sc]) p R C L9 L9 V9 (.slice (some ⟨g, 0, none⟩) n3 c) (part 55555 j (op.items ++ lit3)) own7 wr)) (fun jv _ => n3 - natOf jv)
          case atStart => exact ⟨0, rfl, Nat.zero_le _, ⟨by rw [part_zero]; exact P9.it⟩⟩
          case round =>
            clear P9
            obtain ⟨j, rfl, hj, P⟩ := hrel
            rcases Nat.eq_or_lt_of_le hj with rfl | hjlt
            · have SE := Aside.mk (seen_ok P.it.pl.one i hi)
              go_wp2_with (first | (go_at_call 10; refine SE.it.mono ?_; rintro e w10 ⟨rfl, k10⟩) | fail)
              go_roundw
              case rel => exact ⟨k + 1, by omega, by go_num, R, C, L9, V9, own7, (P.it.quiet k10).pl.one.keepLess (fun _ _ _ h => h.elim)⟩
              case measure => simp [intOf]; omega
            · have pl : (part 55555 j (op.items ++ lit3)).length = n3 := by rw [part_len (by rw [hl3]; exact hj)]; exact hl3
              obtain ⟨b, c', u0, e1, fz, ce, X2, S2⟩ := wh_put P.it.wh (i := j) (by rw [pl]; exact hjlt) 55555
              rw [pl] at e1
              injection e1 with e1 _ e2
              injection e1 with e1
              injection e1 with e1
              subst e1 e2
              rw [part_step (by rw [hl3]; exact hjlt)] at X2
              have P2 : Aside (Mp w.heap.size w (OpKept bo [.int .i64 op.kind, .int .i64 op.at', .int .i64 op.n, .slice sa m sc]) p R C L9 L9 V9 (.slice (some ⟨g, 0, none⟩) n3 c) (part 55555 (j + 1) (op.items ++ lit3)) own7 (wr.setCell ⟨g, j, none⟩ (eI 55555))) := ⟨P.it.pl.sn S2 (fun q hq => by omega), X2⟩
              clear X2 S2 pl P
              go_wp2_with fail
              go_roundw
              case rel => exact ⟨j + 1, by go_num, by omega, P2⟩
              case measure => simp [natOf]; omega
      ·
        as_aux_lemma =>
          have q2 : (op.kind != 1) = true := by simpa using q1
          clear q1
          have ST := Aside.mk (step_ok P4.it rfl HS.it op _ RD.it NL.it SZ.it)
          clear P4 C4
          go_wp2_with (first | (go_at_call 6; refine ST.it.mono ?_; rintro e w5 ⟨rfl, R5, C5, L5, V5, own5, hp5⟩) | fail)
          have P5 : Aside _ := ⟨hp5⟩
          clear hp5
          go_roundw
          case rel => exact ⟨k + 1, by omega, by go_num, R5, C5, L5, V5, own5, P5.it.keepLess (fun _ _ _ h => h.elim)⟩
          case measure => simp [intOf]; omega
    · obtain rfl : k = no := by omega
      clear hkn
      go_upto_region 28 with fail
      go_loopw [142] (fun x wr => ∃ i : Nat, i ≤ 4 ∧ x = .int .i64 i ∧ ∃ R C L V own, Aside (PlayAt w.heap.size w NoneKept p R C L V own wr)) (fun x _ => 4 - (intOf x).toNat)
      case atStart => exact ⟨0, by decide, rfl, R, C, L, V, own, PL⟩
      case round =>
        clear PL
        obtain ⟨i, hi5, rfl, R, C, L, V, own, PL⟩ := hrel
        by_cases hi : i < 4
        · have hi0 : (0 : Int) ≤ (i : Int) := by omega
          have hi4 : (i : Int) < 4 := by omega
          obtain ⟨c1, c2, c3⟩ := PL.it.at3 i hi
          have hrow := PL.it.row i hi
          obtain ⟨va, vc, hve, hvc, _⟩ := hrow.1
          rw [iv_length] at hve hvc
          obtain ⟨ml, hml⟩ : ∃ ml, ml = (L i).length := ⟨_, rfl⟩
          rw [← hml] at hve hvc
          rw [hve] at c3 hrow
          have CL := L31 PL.it.two i hi
          have PK := Aside.mk (refPeek_ok wr (C i) _ (L i) hrow.plain hrow.2 (by omega) n)
          obtain ⟨wl, hwl⟩ : ∃ wl, wl = (L i).take n.toNat := ⟨_, rfl⟩
          rw [← hwl] at PK
          have HWL := Aside.mk (And.intro hwl (show wl.length ≤ 2147483647 by rw [hwl]; have := (List.take_sublist n.toNat (L i)).length_le; omega))
          clear hrow hve hml hwl CL
          go_upto_region 33 with (first | (go_at_call 11; refine PK.it.mono ?_; clear PK; rintro e w2' ⟨wv, rfl, r2, n2, k2⟩) | fail)
          have M0 : Aside (Mw w.heap.size w p R C L L V wv wl (.slice none 0 0) [] (fun _ => wl) (give own wr.heap.size 40) w2') := ⟨PL.it.two.fresh k2 40, fresh_reads 40 r2 n2, OwR.zero, fun k v e => by simp at e⟩
          generalize give own wr.heap.size 40 = own1 at M0
          clear PL c1 c2 c3 r2 n2 k2 hvc
          go_loopw [17, 18] (fun av kv wr => ∃ (k : Nat) (a : Option Addr) (c : Nat) (vs : List Value) (own : Nat → Nat), av = .slice a k c ∧ kv = .int .i64 k ∧ k ≤ 18 ∧ Aside (vs.length = k ∧ Mw w.heap.size w p R C L L V wv wl (.slice a k c) vs (fun _ => wl) own wr)) (fun _ kv _ => 18 - (intOf kv).toNat)
          case atStart => exact ⟨0, none, 0, [], own1, rfl, rfl, by omega, ⟨rfl, M0.it⟩⟩
          case round =>
            clear M0
            obtain ⟨k, a, c, vs, own, rfl, rfl, hk, M⟩ := hrel
            rcases Nat.eq_or_lt_of_le hk with h18 | h18
            · have h18' : ¬ (k : Int) < 18 := by omega
              clear h18
              have hkc : (k : Int) ≤ (c : Int) := by
                rcases M.it.2.all.1.2 with ⟨e, h0⟩ | ⟨g, cap, cur, e, _, _, hn, _⟩
                · have := M.it.1; omega
                · injection e with _ _ e; have := M.it.1; omega
              go_upto_region 40 with fail
              go_loopw [175] (fun x wr2 => ∃ (j : Nat), x = .int .i64 j ∧ j ≤ k ∧ Aside (Keeps Nowhere wr wr2)) (fun x _ => k - (intOf x).toNat)
              case atStart => exact ⟨0, rfl, Nat.zero_le _, ⟨Keeps.refl _ _⟩⟩
              case round =>
                obtain ⟨j, rfl, hj, KW⟩ := hrel
                have M2 := Aside.mk (M.it.2.quiet KW.it)
                rcases Nat.eq_or_lt_of_le hj with rfl | hjlt
                · have HV : Aside (vs.length = j) := ⟨M.it.1⟩
                  clear M KW
                  obtain ⟨c1, c2, c3⟩ := M2.it.pl.one2 i hi
                  have CL := L31 M2.it.pl i hi
                  have PP := Aside.mk (m_pop M2.it i hi 1 j)
                  obtain ⟨q1, hq1⟩ : ∃ q1, ((L i).take (1 : Int).toNat).length = q1 := ⟨_, rfl⟩
                  rw [hq1] at PP
                  go_upto_region 46 with (first | (go_at_call 13; refine PP.it.mono ?_; clear PP; rintro e w3 ⟨a3, d3, own3, rfl, X3, M3, S3⟩) | fail)
                  have HQ1 := Aside.mk hq1
                  obtain ⟨va, vc, hve⟩ := M3.it.len hi
                  obtain ⟨ml, hml⟩ : ∃ ml, (L i).length = ml := ⟨_, rfl⟩
                  rw [hml] at hve
                  obtain ⟨m4, hm4⟩ : ∃ m4, ((L i).drop (1 : Int).toNat).length = m4 := ⟨_, rfl⟩
                  obtain ⟨x2, x3, x4, x5⟩ := M3.it.keep hi hve (Keeps.refl Nowhere w3).drew
                  have M3d := Aside.mk (M3.it.quiet (Keeps.refl Nowhere w3).drew)
                  have RD := Aside.mk (m_rdrop M3d.it hi hve (by omega) 1 hm4)
                  obtain ⟨z, hz⟩ : ∃ z : Int, ((Nat.min (1 : Int).toNat (L i).length : Nat) : Int) = z := ⟨_, rfl⟩
                  rw [hz] at RD
                  clear c1 c2 c3 hq1 hml hm4 hz
                  go_cut [] (fun wx => ∃ (a4 : Option Addr) (c4 : Nat) (own' : Nat → Nat), Aside (XA own' wx j (.slice a3 q1 d3) ((L i).take (1 : Int).toNat) ∧ Mw w.heap.size w p R C (upd L i ((L i).drop (1 : Int).toNat)) (upd L i ((L i).drop (1 : Int).toNat)) (upd V i (.slice a4 m4 c4)) wv wl (.slice a j c) vs (fun _ => wl) own' wx))
                  · go_region_with (first | (go_at_call 14; refine RD.it.mono ?_; rintro e w4 ⟨a4, c4, rfl, N4, t2, t3, t4, t5⟩))
                    all_goals
                      go_wp2
                      go_meet
                      have MM := M3d.it.model hi N4.it
                      exact ⟨a4, c4, _, ⟨(X3.it.sn' (I := fun _ => False) (Sn.same (Keeps.refl Nowhere w3).drew) (fun x => x)).sn' MM.2 (by omega), MM.1⟩⟩
                  obtain ⟨a4, c4, own4, M4⟩ := hcut
                  have HF1 := Aside.mk (show ((L i).take (1 : Int).toNat).length ≤ 2147483647 by have := (List.take_sublist (1 : Int).toNat (L i)).length_le; omega)
                  generalize (L i).take (1 : Int).toNat = l1 at M4 HQ1 HF1
                  generalize upd L i ((L i).drop (1 : Int).toNat) = L2 at M4
                  generalize upd V i (.slice a4 m4 c4) = V2 at M4
                  clear M3 M3d X3 S3 RD x2 x3 x4 x5 hve CL M2
                  obtain ⟨w4, rfl⟩ : ∃ w4, w4 = wc := ⟨_, rfl⟩
                  obtain ⟨c1, c2, c3⟩ := M4.it.2.pl.one2 i hi
                  have CL := L31 M4.it.2.pl i hi
                  have PP := Aside.mk (m_pop M4.it.2 i hi 2 (j + 1))
                  obtain ⟨q2, hq2⟩ : ∃ q2, ((L2 i).take (2 : Int).toNat).length = q2 := ⟨_, rfl⟩
                  rw [hq2] at PP
                  go_upto_region 48 with (first | (go_at_call 13; refine PP.it.mono ?_; clear PP; rintro e w5 ⟨a5, d5, own5, rfl, X5, M5, S5⟩) | fail)
                  have HQ2 := Aside.mk hq2
                  have Y5 := Aside.mk (M4.it.1.sn' S5.it (by omega))
                  obtain ⟨va2, vc2, hve⟩ := M5.it.len hi
                  obtain ⟨ml2, hml⟩ : ∃ ml, (L2 i).length = ml := ⟨_, rfl⟩
                  rw [hml] at hve
                  obtain ⟨m5, hm5⟩ : ∃ m5, ((L2 i).drop (2 : Int).toNat).length = m5 := ⟨_, rfl⟩
                  obtain ⟨x2, x3, x4, x5⟩ := M5.it.keep hi hve (Keeps.refl Nowhere w5).drew
                  have M5d := Aside.mk (M5.it.quiet (Keeps.refl Nowhere w5).drew)
                  have RD := Aside.mk (m_rdrop M5d.it hi hve (by omega) 2 hm5)
                  obtain ⟨z2, hz⟩ : ∃ z : Int, ((Nat.min (2 : Int).toNat (L2 i).length : Nat) : Int) = z := ⟨_, rfl⟩
                  rw [hz] at RD
                  clear c1 c2 c3 hq2 hml hm5 hz
                  go_cut [] (fun wx => ∃ (a6 : Option Addr) (c6 : Nat) (own' : Nat → Nat), Aside (XA own' wx j (.slice a3 q1 d3) l1 ∧ XA own' wx (j + 1) (.slice a5 q2 d5) ((L2 i).take (2 : Int).toNat) ∧ Mw w.heap.size w p R C (upd L2 i ((L2 i).drop (2 : Int).toNat)) (upd L2 i ((L2 i).drop (2 : Int).toNat)) (upd V2 i (.slice a6 m5 c6)) wv wl (.slice a j c) vs (fun _ => wl) own' wx))
                  · go_region_with (first | (go_at_call 14; refine RD.it.mono ?_; rintro e w6 ⟨a6, c6, rfl, N6, t2, t3, t4, t5⟩))
                    all_goals
                      go_wp2
                      go_meet
                      have MM := M5d.it.model hi N6.it
                      exact ⟨a6, c6, _, ⟨(Y5.it.sn' (I := fun _ => False) (Sn.same (Keeps.refl Nowhere w5).drew) (fun x => x)).sn' MM.2 (by omega), (X5.it.sn' (I := fun _ => False) (Sn.same (Keeps.refl Nowhere w5).drew) (fun x => x)).sn' MM.2 (by omega), MM.1⟩⟩
                  obtain ⟨a6, c6, own6, M6⟩ := hcut
                  have HF2 := Aside.mk (show ((L2 i).take (2 : Int).toNat).length ≤ 2147483647 by have := (List.take_sublist (2 : Int).toNat (L2 i)).length_le; omega)
                  generalize (L2 i).take (2 : Int).toNat = l2 at M6 HQ2 HF2
                  generalize upd L2 i ((L2 i).drop (2 : Int).toNat) = L3 at M6
                  generalize upd V2 i (.slice a6 m5 c6) = V3 at M6
                  clear M5 M5d X5 Y5 S5 RD x2 x3 x4 x5 hve CL M4
                  obtain ⟨w6, rfl⟩ : ∃ w6, w6 = wc := ⟨_, rfl⟩
                  obtain ⟨a7, c7, w7, own7, run7, M7, O7, Y7, X7⟩ := M6.it.2.2.twoRun (v1 := .slice a3 q1 d3) (v2 := .slice a5 q2 d5) (l1 := l1) (l2 := l2) (by rw [HV.it]; exact M6.it.1) (by rw [HV.it]; exact M6.it.2.1) rfl rfl (by rw [HV.it]; omega)
                  rw [HV.it] at run7 O7 Y7 X7
                  have AP := Aside.mk (m_apart M7.it (g := fun k => if k < j then wl else if k = j then l1 else l2) O7.it (fun k v e => by
                      rcases Nat.lt_trichotomy k vs.length with hk | hk | hk
                      · rw [List.getElem?_append_left hk] at e
                        simp only [if_pos (show k < j by rw [← HV.it]; exact hk)]
                        exact M7.it.xs k v e
                      · rw [List.getElem?_append_right (by omega), hk, Nat.sub_self] at e
                        simp at e
                        subst e
                        simp only [if_neg (show ¬ k < j by rw [← HV.it]; omega), if_pos (show k = j by rw [← HV.it]; exact hk)]
                        rw [show k = j by rw [← HV.it]; exact hk]
                        exact Y7.it
                      · rw [List.getElem?_append_right (by omega)] at e
                        have hk1 : k = vs.length + 1 := by
                          have := (List.getElem?_eq_some_iff.1 e).1
                          simp at this
                          omega
                        rw [hk1, Nat.add_sub_cancel_left] at e
                        simp at e
                        subst e
                        simp only [if_neg (show ¬ k < j by rw [← HV.it]; omega), if_neg (show ¬ k = j by rw [← HV.it]; omega)]
                        rw [show k = j + 1 by rw [← HV.it]; exact hk1]
                        exact X7.it) (by rw [List.length_append, HV.it]; simp; omega) (fun k _ => by
                      split
                      · exact HWL.it.2
                      split
                      · exact HF1.it
                      · exact HF2.it) ⟨_, rfl⟩ (fun k hk => by simp only [if_pos (show k < j by rw [← HV.it]; exact hk)]))
                  clear M6 O7 Y7 X7
                  go_upto_region 51 with (first | (go_at_call 15; refine AP.it.mono ?_; clear AP; rintro e w8 ⟨rfl, own8, M8⟩) | (go_at_call 10; refine (m_seen M8.it i hi).mono ?_; clear M8; rintro e w9 ⟨rfl, M9⟩) | fail)
                  clear M7
                  obtain ⟨va3, vc3, hve⟩ := M9.it.len hi
                  obtain ⟨ml3, hml⟩ : ∃ ml, (L3 i).length = ml := ⟨_, rfl⟩
                  rw [hml] at hve
                  have CL := L31 M9.it.pl i hi
                  obtain ⟨m9, hm9⟩ : ∃ m9, (L3 i ++ l123.take (C i - (L3 i).length)).length = m9 := ⟨_, rfl⟩
                  obtain ⟨_, c2, c3⟩ := M9.it.pl.one2 i hi
                  rw [hve] at c3
                  have f2 := M9.it.pl.cells.1.frozen (4 + i * 2)
                  have f3 := M9.it.pl.cells.1.frozen (4 + i * 2 + 1)
                  have hpl := M9.it.pl.cells.1.lt
                  have np1 : p ≠ w9.heap.size := by omega
                  have np2 := np1.symm
                  have MA := Aside.mk (M9.it.quiet ((Keeps.refl Nowhere w9).alloc (.cells #[.int .i64 1, .int .i64 2, .int .i64 3] 3)).drew)
                  have CA : Aside (Cells (w9.alloc (.cells #[.int .i64 1, .int .i64 2, .int .i64 3] 3)).drew w9.heap.size 3 (iv l123)) := ⟨(Cells.new w9 3 (iv l123)).drew⟩
                  have RP := Aside.mk (m_rpush MA.it hi hve CL.1 CL.2 (.slice (some ⟨w9.heap.size, 0, none⟩) 3 3) l123 (lit_reads2 CA.it (fun x => x)) (by decide) hm9)
                  obtain ⟨d2, d3, d4, d5⟩ := M9.it.keep hi hve ((Keeps.refl Nowhere w9).alloc (.cells #[.int .i64 1, .int .i64 2, .int .i64 3] 3)).drew
                  obtain ⟨e2, e3, e4, e5⟩ := M9.it.keep hi hve (Keeps.refl Nowhere w9).drew
                  obtain ⟨z3, hz⟩ : ∃ z : Int, ((Nat.min l123.length (C i - (L3 i).length) : Nat) : Int) = z := ⟨_, rfl⟩
                  rw [hz] at RP
                  clear hml hm9 hz hpl
                  go_cut [] (fun wx => ∃ (a4 : Option Addr) (c4 : Nat) (own' : Nat → Nat), Aside (Mw w.heap.size w p R C L3 (upd L3 i (L3 i ++ l123.take (C i - (L3 i).length))) (upd V3 i (.slice a4 m9 c4)) wv wl (.slice a j c) vs (fun k => r90 wl.length k) own' wx))
                  · go_region_with (first | (go_at_call 7; refine RP.it.mono ?_; rintro e w10 ⟨a4, c4, rfl, N4, t2, t3, t4, t5⟩))
                    all_goals
                      go_wp2
                      go_meet
                      exact ⟨a4, c4, _, ⟨(MA.it.model hi N4.it).1⟩⟩
                  as_aux_lemma =>
                    obtain ⟨w10, rfl⟩ : ∃ w10, w10 = wc := ⟨_, rfl⟩
                    obtain ⟨a8, c8, own10, M10⟩ := hcut
                    generalize upd V3 i (.slice a8 m9 c8) = V4 at M10
                    clear M9 MA CA RP c2 c3 f2 f3 np1 np2 hve d2 d3 d4 d5 e2 e3 e4 e5
                    obtain ⟨c1, _, _⟩ := M10.it.pl.one2 i hi
                    have MB := Aside.mk (M10.it.quiet ((Keeps.refl Nowhere w10).alloc (.cells #[.int .i64 1, .int .i64 2, .int .i64 3] 3)))
                    have PH := Aside.mk (m_push (M10.it.idle (Sn.quiet ((Keeps.refl Nowhere w10).alloc (.cells #[.int .i64 1, .int .i64 2, .int .i64 3] 3)) 60)) i hi (.slice (some ⟨w10.heap.size, 0, none⟩) 3 3) l123 (lit_reads2 (Cells.new w10 3 (iv l123)) (by rw [give_new (Nat.le_refl _)]; omega)).1 (by decide))
                    go_upto_region 53 with (first | (go_at_call 8; refine PH.it.mono ?_; clear PH; rintro e w11 ⟨own11, rfl, M11⟩) | fail)
                    generalize upd L3 i (L3 i ++ l123.take (C i - (L3 i).length)) = L4 at M11
                    clear M10 MB c1
                    obtain ⟨N, hN⟩ : ∃ N, wl.length = N := ⟨_, rfl⟩
                    have HN := Aside.mk hN
                    have hNb : (N : Int) ≤ 2147483647 := by have := HWL.it.2; omega
                    have P11 : Aside (∃ f : Nat → List Int, (∀ q, (f q).length = N) ∧ Mw w.heap.size w p R C L4 L4 V4 wv wl (.slice a j c) vs f own11 w11) := ⟨_, fun q => by rw [r90_len]; exact hN, M11.it⟩
                    clear M11 hN
                    go_upto_region 54 with fail
                    go_loopw [267] (fun x wr => ∃ (q : Nat) (own : Nat → Nat), x = .int .i64 q ∧ q ≤ j ∧ Aside (∃ f : Nat → List Int, (∀ q, (f q).length = N) ∧ Mw w.heap.size w p R C L4 L4 V4 wv wl (.slice a j c) vs f own wr)) (fun x _ => j - (intOf x).toNat)
                    case atStart => exact ⟨0, own11, rfl, Nat.zero_le _, P11⟩
                    case round =>
                      clear P11
                      obtain ⟨q, own, rfl, hq, P⟩ := hrel
                      rcases Nat.eq_or_lt_of_le hq with rfl | hqlt
                      · obtain ⟨f, hf, M⟩ := P.it
                        have MM := Aside.mk M
                        have SE := Aside.mk (m_seen M i hi)
                        clear M hf P
                        go_wp2_with (first | (go_at_call 10; refine SE.it.mono ?_; clear SE; rintro e w12 ⟨rfl, M12⟩) | fail)
                        go_roundw
                        case rel => exact ⟨i + 1, by omega, by go_num, R, C, L4, V4, own, ⟨M12.it.pl.one⟩⟩
                        case measure => simp [intOf]; omega
                      · obtain ⟨v, hv⟩ : ∃ v, vs[q]? = some v := ⟨_, List.getElem?_eq_getElem (by rw [HV.it]; exact hqlt)⟩
                        have HVV := Aside.mk hv
                        obtain ⟨f, hf, M⟩ := P.it
                        have Pall := M.all
                        have hvl := HV.it
                        rw [← hvl] at Pall
                        obtain ⟨ab, ac, ea, hac, cv⟩ := rowS_cell Pall hv
                        injection ea with ea1 ea2 ea3
                        subst ea1 ea3
                        obtain ⟨xa, xc, ev, hxc⟩ := (M.xs q v hv).shape
                        rw [hf q] at ev hxc
                        subst ev
                        clear hv ea2 hac Pall hvl M hf
                        go_upto_region 57 with fail
                        clear cv
                        go_loopw [273] (fun x wr => ∃ (t : Nat) (own : Nat → Nat), x = .int .i64 t ∧ t ≤ N ∧ Aside (∃ f : Nat → List Int, (∀ q, (f q).length = N) ∧ Mw w.heap.size w p R C L4 L4 V4 wv wl (.slice (some ⟨ab, 0, none⟩) j c) vs f own wr)) (fun x _ => N - (intOf x).toNat)
                        case atStart => exact ⟨0, own, rfl, Nat.zero_le _, P⟩
                        case round =>
                          clear P
                          obtain ⟨t, own, rfl, ht, P⟩ := hrel
                          rcases Nat.eq_or_lt_of_le ht with rfl | htlt
                          · go_wp2_with fail
                            go_roundw
                            case rel => exact ⟨q + 1, own, by go_num, by omega, P⟩
                            case measure => simp [intOf]; omega
                          · obtain ⟨f, hf, M⟩ := P.it
                            obtain ⟨b, c', u0, e1, fz, ce, X2, S2⟩ := (M.xs q _ HVV.it).put (i := t) (by rw [hf q]; exact htlt) 77777
                            rw [hf q] at e1
                            injection e1 with e1 _ e2
                            subst e1 e2
                            have P2 : Aside (∃ f : Nat → List Int, (∀ q, (f q).length = N) ∧ Mw w.heap.size w p R C L4 L4 V4 wv wl (.slice (some ⟨ab, 0, none⟩) j c) vs f own (wr.setCell ⟨b, t, none⟩ (eI 77777))) := ⟨_, fun q' => by split; (rw [List.length_set]; exact hf q); exact hf q', M.at S2 HVV.it X2⟩
                            clear X2 S2 M hf P
                            go_wp2_with fail
                            go_roundw
                            case rel => exact ⟨t + 1, own, by go_num, by omega, P2⟩
                            case measure => simp [intOf]; omega
                ·
                  as_aux_lemma =>
                    obtain ⟨v, hv⟩ : ∃ v, vs[j]? = some v := ⟨_, List.getElem?_eq_getElem (by rw [M.it.1]; exact hjlt)⟩
                    have Pall := M2.it.all
                    have hvl := M.it.1
                    rw [← hvl] at Pall
                    obtain ⟨ab, ac, ea, hac, cv⟩ := rowS_cell Pall hv
                    injection ea with ea1 ea2 ea3
                    subst ea1 ea3
                    have X := M2.it.xs j v hv
                    have SM := Aside.mk (same_eq _ _ _ wl X.reads M2.it.wt.plain (by have := HWL.it.2; omega))
                    clear hv ea2 hac X Pall hvl
                    go_wp2_with (first | (go_at_call 9; refine SM.it.mono ?_; clear SM; rintro e w4 ⟨rfl, k4⟩) | fail)
                    go_roundw
                    case rel => exact ⟨j + 1, by go_num, by omega, ⟨KW.it.trans k4⟩⟩
                    case measure => simp [intOf]; omega
            ·
              as_aux_lemma =>
                have h18' : (k : Int) < 18 := by omega
                obtain ⟨c1, _, _⟩ := M.it.2.pl.one2 i hi
                have PK := Aside.mk (m_peek M.it.2 i hi n k)
                rw [← HWL.it.1] at PK
                obtain ⟨N, hN⟩ : ∃ N, wl.length = N := ⟨_, rfl⟩
                rw [hN] at PK
                have HN := Aside.mk hN
                clear hN
                go_upto_region 36 with (first | (go_at_call 12; refine PK.it.mono ?_; clear PK; rintro e w3 ⟨a3, c3, own3, rfl, X3, M3⟩) | fail)
                have SM := Aside.mk (same_eq w3 _ _ wl X3.it.reads M3.it.wt.plain (by have := HWL.it.2; omega))
                go_upto_region 38 with (first | (go_at_call 9; refine SM.it.mono ?_; clear SM; rintro e w4 ⟨rfl, k4⟩) | fail)
                obtain ⟨a8, c8, w8, own8, run8, M8⟩ := (M3.it.quiet k4).pushRun (v := .slice a3 N c3) (l := wl) (by rw [M.it.1]; exact X3.it.sn' (I := fun _ => False) (Sn.same k4) (fun x => x)) rfl (by rw [M.it.1]; omega)
                rw [M.it.1] at run8 M8
                have M9 : Aside ((vs ++ [Value.slice a3 N c3]).length = k + 1 ∧ Mw w.heap.size w p R C L L V wv wl (.slice a8 (k + 1) c8) (vs ++ [.slice a3 N c3]) (fun _ => wl) own8 w8) := ⟨by rw [List.length_append, M.it.1]; rfl, by
                  have := M8.it
                  simp only [ite_self] at this
                  exact this⟩
                clear M8 X3 M3 M c1
                go_wp2_with fail
                go_roundw
                case rel => exact ⟨k + 1, a8, c8, vs ++ [.slice a3 N c3], own8, rfl, by go_num, by omega, M9⟩
                case measure => simp [intOf]; omega
        ·
          as_aux_lemma =>
            obtain rfl : i = 4 := by omega
            have e4 : ((4 : Nat) : Int) = 4 := rfl
            rw [e4]
            go_wp2_with fail
            go_ret
            exact ⟨rfl, PL.it.ground.bel⟩
end Go.Proofs.YtkmijhfimkcoiaaDoor

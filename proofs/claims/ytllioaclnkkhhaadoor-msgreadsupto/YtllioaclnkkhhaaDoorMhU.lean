/-
  culvertlaw27.MsgReads
-/
import Derived.Test.YtllioaclnkkhhaaDoorMhT
namespace Go.Proofs.YtllioaclnkkhhaaDoor
open Go.RowKit

section
variable {A : Nat → Addr} {w w' W w0 w1 : World} {own own' : Nat → Nat} {p p' most mb : Nat} {F B bs : List Int} {v vq fv ev : Value} {O : MOut} {zs : List PcV} {I : Nat → Prop}
theorem there2 {e : TypeId} {c0 c1 : Value} {g : Nat} (h : Cells W g e [c0, c1]) : W.there g 0 2 := by
  intro j hj
  rw [Nat.zero_add]
  refine ⟨?_, h.frozen j⟩
  rw [h.cell, List.getElem?_eq_getElem (by show j < 2; exact hj)]
  rfl
theorem read27Info (c0 c1 : Value) : (Tryd.prog.info? 39).map (·.size) = some (#[c0, c1] : Array Value).size := by
  have : (Tryd.prog.info? 39).map (·.size) = some 2 := by kernel_rfl
  rw [this]; rfl
theorem lm_copied {l seg : List Int} {dead : Bool} {q8 : Option Addr} {l8 c8 : Nat} {W1 w8 : World} (h : Lm A w0 own W p most l dead) (k1 : Keeps Nowhere W W1) (o8 : w8.ownsRow 0 5 1 (.slice q8 l8 c8) (([] : List Int) ++ seg).length (bv (([] : List Int) ++ seg)))
    (k8 : Keeps (fun b => (Value.slice (some ⟨W.heap.size, 0, none⟩) 0 0).ownBlock = some b) W1 w8) (b8 : ∀ b, (Value.slice q8 l8 c8).ownBlock = some b → (Value.slice (some ⟨W.heap.size, 0, none⟩) 0 0).ownBlock = some b ∨ W1.heap.size ≤ b) :
    Sn (fun _ => False) own W (give own W.heap.size 3) w8 ∧ Lm A w0 (give own W.heap.size 3) w8 p most l dead ∧ RdO (give own W.heap.size 3) 3 w8 (.slice q8 l8 c8) seg := by
  have kk : Keeps Nowhere W w8 := k1.next k8 (fun k hk hlt => by
    simp only [Value.ownBlock, Option.some.injEq] at hk
    omega)
  have s : Sn (fun _ => False) own W (give own W.heap.size 3) w8 := Sn.quiet kk 3
  have hbb : ∀ b, (Value.slice q8 l8 c8).ownBlock = some b → W.heap.size ≤ b := fun b hb => by
    rcases b8 b hb with e | e
    · simp only [Value.ownBlock, Option.some.injEq] at e
      omega
    · exact Nat.le_trans k1.size e
  have o9 : OwnB 0 w8 (.slice q8 l8 c8) seg := by simpa [OwnB] using o8
  exact ⟨s, h.sn s (fun x => x) (fun x => x) (fun x => x), OwnB.rd o9, fun g hg => ⟨owns_lt o8 g hg, give_new (hbb g hg)⟩⟩
theorem sum_take {zs : List PcV} {i : Nat} {z : PcV} (h : zs[i]? = some z) : ((zs.take (i + 1)).map (fun z => z.ns.length)).sum = ((zs.take i).map (fun z => z.ns.length)).sum + z.ns.length := by
  rw [List.take_add_one, h]
  simp
theorem sum_le {zs : List PcV} (i : Nat) : ((zs.take i).map (fun z => z.ns.length)).sum ≤ (zs.map (fun z => z.ns.length)).sum := by
  conv => rhs; rw [← List.take_append_drop i zs, List.map_append, List.sum_append]
  omega
theorem Rg.quiet (h : Rg A w1 own W p most F mb v) (k : Keeps Nowhere W w') : Rg A w1 own w' p most F mb v :=
  have s : Sn (fun _ => False) own W own w' := Sn.same k
  ⟨h.L.quiet k, h.box.sn s (fun x => x), h.fed.sx s.sx (fun x => x), h.byt⟩
set_option maxRecDepth 20000 in
set_option maxHeartbeats 4000000 in
theorem msgReads_good (hm : most ≤ 1048576) (v : Value) (zs : List PcV) (hs : Sents 86 codeVars A w) (hz : PiecesArg w v zs) :
    Calls Tryd.prog 5 #[.int .i64 most, v] w fun e w' => e = .returned (.bool true) ∧ Below w.heap.size w w' := by
  obtain ⟨hz1, hz2, sa, sc, rfl, hsc1, hsc2, hzc⟩ := hz
  obtain ⟨M, hM⟩ : ∃ M, zs.length = M := ⟨_, rfl⟩
  rw [hM] at hz1 hsc1 ⊢
  have F := Aside.mk (fixed27 hs)
  have HZ := Aside.mk hzc
  have HM := Aside.mk (And.intro hM hz2)
  have HS := Aside.mk hs
  have HMo := Aside.mk hm
  clear hs hzc hM hz2 hm
  go_enter Tryd.func5, Tryd.ntmps5
  go_upto_region 3 with (first | (go_at_call 13; refine F.it.mono ?_; clear F; rintro e w1 ⟨rfl, B1⟩) | fail)
  have NW := Aside.mk (lm_start (A := A) (most := most) (HS.it.later B1.it) HMo.it)
  go_upto_region 4 with (first | (go_at_call 9; refine NW.it.mono ?_; clear NW; rintro e w2 ⟨p, own2, rfl, L2, K2⟩) | fail)
  have ND := Aside.mk (refNew27_ok (w := w2) (most := most) HMo.it)
  go_upto_region 5 with (first | (go_at_call 15; refine ND.it.mono ?_; clear ND; rintro e w3 ⟨rfl, B3⟩) | fail)
  have K3 : Keeps Nowhere w2 w3 := Keeps.ofBelow B3.it
  have KA : Keeps Nowhere w3 (w3.alloc (.cells #[.int .i64 most, .slice none 0 0] 39)) := (Keeps.refl _ _).alloc _
  have G0 : Aside (Rg A w1 (give own2 w3.heap.size 6) (w3.alloc (.cells #[.int .i64 most, .slice none 0 0] 39)) p most [] w3.heap.size (.slice none 0 0)) := ⟨by
    have e : parseM most [] = ⟨[], [], false⟩ := parseM_none rfl
    refine ⟨?_, ⟨Cells.new _ _ _, give_new (Nat.le_refl _)⟩, ⟨⟨⟨none, 0, rfl, by simp [bv], fun k u hk => by simp [bv] at hk⟩, fun l c e => by injection e with _ _ e; exact e.symm⟩, fun e => absurd rfl e⟩, fun x hx => by cases hx⟩
    rw [e]
    exact (L2.it.quiet K3).sn (I := fun _ => False) (Sn.quiet KA 6) (fun x => x) (fun x => x) (fun x => x)⟩
  have BW : Aside (Below w.heap.size w (w3.alloc (.cells #[.int .i64 most, .slice none 0 0] 39))) := ⟨B1.it.trans (((K2.it.trans K3).trans KA).bel.mono B1.it.size)⟩
  clear L2 K2 B3 K3 KA
  generalize w3.alloc (.cells #[.int .i64 most, .slice none 0 0] 39) = w4 at G0 BW ⊢
  generalize give own2 w3.heap.size 6 = own4 at G0
  generalize w3.heap.size = mb at G0 ⊢
  go_upto_region 8 with (first | (go_at_call 10; refine (code_nil _).mono ?_; rintro e w5 ⟨rfl, hw5⟩; rw [hw5]; clear hw5) | fail)
  go_loopw [41] (fun iv wr => ∃ (i : Nat) (own : Nat → Nat) (F : List Int) (vq : Value), iv = .int .i64 i ∧ i ≤ M ∧ Aside (Rg A w1 own wr p most F mb vq ∧ F.length ≤ ((zs.take i).map (fun z => z.ns.length)).sum)) (fun iv _ => M - natG iv)
  case atStart => exact ⟨0, own4, [], _, rfl, Nat.zero_le _, ⟨G0.it, by simp⟩⟩
  case round =>
    clear G0
    obtain ⟨i, own, F, vq, rfl, hi, G⟩ := hrel
    have BR : Aside (Below w.heap.size w wr) := ⟨B1.it.trans (G.it.1.L.g.g.bel.mono B1.it.size)⟩
    rcases Nat.eq_or_lt_of_le hi with e | hlt
    · subst e
      go_wp2_with fail
      go_ret
      exact ⟨rfl, BR.it⟩
    · obtain ⟨z, hzi⟩ : ∃ z, zs[i]? = some z := ⟨_, List.getElem?_eq_getElem (by rw [HM.it.1]; exact hlt)⟩
      obtain ⟨gz, oz, cs, rfl, ⟨rfl, hzr, hzb⟩, _, hcs⟩ := HZ.it i z hzi
      have cz : wr.cell? ⟨gz, oz + i, none⟩ = some z.sl := by
        have := hcs 0 (by decide)
        rw [Nat.mul_one, Nat.add_zero] at this
        rw [BR.it.cell (World.block_lt_of_cell? w _ this)]
        exact this
      obtain ⟨pz, kz, hzsl⟩ := hzr.shape
      have hsum := sum_take hzi
      have hle := sum_le (zs := zs) (i + 1)
      obtain ⟨n, hn⟩ : ∃ n, z.ns.length = n := ⟨_, rfl⟩
      rw [hn] at hzsl hsum
      rw [hzsl] at cz hzr
      obtain ⟨qv, cv, evq⟩ := G.it.1.fed.1.shape
      obtain ⟨Lq, hLq⟩ : ∃ Lq, F.length = Lq := ⟨_, rfl⟩
      rw [hLq] at evq
      subst evq
      have hFl := G.it.2
      have hm2 := HM.it.2
      have FD := Aside.mk (refFeed27_any (w := wr) (most := most) qv Lq cv G.it.1.fed.1 G.it.1.byt pz n kz (hzr.later BR.it) hzb (by rw [hn]; omega) HMo.it)
      have FO := fed_out most F z.ns
      obtain ⟨O2, hO2⟩ : ∃ O2, outM most (parseM most F).rest (parseM most F).dead z.ns = O2 := ⟨_, rfl⟩
      obtain ⟨kc, hkc⟩ : ∃ kc, codeF (parseM most F).dead O2 = kc := ⟨_, rfl⟩
      rw [hO2, hkc] at FO
      rw [FO.2.2.2] at FD
      have FO0 := Aside.mk FO
      have HO2 := Aside.mk (And.intro hO2 hkc)
      clear FO hO2 hkc
      have m0 : wr.cell? ⟨mb, 0, none⟩ = some (.int .i64 most) := by rw [G.it.1.box.1.cell]; rfl
      have m1 : wr.cell? ⟨mb, 1, none⟩ = some (.slice qv Lq cv) := by rw [G.it.1.box.1.cell]; rfl
      have hlt' : (i : Int) < (M : Int) := by omega
      have HZR := Aside.mk hzr
      have HZB := Aside.mk (And.intro hzb hn)
      have HSU := Aside.mk (And.intro hsum (And.intro hle hFl))
      clear hcs hzr hzb hn hsum hle hFl hm2 hLq hzi hzsl
      go_upto_region 11 with (first | (go_at_call 16; refine FD.it.mono ?_; clear FD; rintro e w5 ⟨q5, L5, c5, fq5, fl5, fc5, rfl, R5, M5, B5⟩) | fail)
      obtain ⟨F', hF'⟩ : ∃ F', fedM most F z.ns = F' := ⟨_, rfl⟩
      rw [hF'] at R5
      have FO := FO0.it
      rw [hF'] at FO
      have k5 : Keeps Nowhere wr w5 := Keeps.ofBelow B5.it
      have s5 : Sn (fun _ => False) own wr (give own wr.heap.size 7) w5 := Sn.quiet k5 7
      obtain ⟨W6, hW6⟩ : ∃ W6, W6 = w5.alloc (.cells #[.int .i64 most, .slice q5 L5 c5] 39) := ⟨_, rfl⟩
      have k6 : Keeps Nowhere w5 W6 := by rw [hW6]; exact (Keeps.refl _ _).alloc _
      obtain ⟨own6, hown6⟩ : ∃ own6, give (give own wr.heap.size 7) w5.heap.size 8 = own6 := ⟨_, rfl⟩
      have s6 : Sn (fun _ => False) (give own wr.heap.size 7) w5 own6 W6 := by rw [← hown6]; exact Sn.quiet k6 8
      have s56 : Sn (fun _ => False) own wr own6 W6 := s5.trans s6
      have NB : CellsO own6 8 W6 w5.heap.size 39 [.int .i64 most, .slice q5 L5 c5] := ⟨by rw [hW6]; exact Cells.new _ _ _, by rw [← hown6]; exact give_new (Nat.le_refl _)⟩
      have FP : RdP (give own wr.heap.size 7) 7 w5 (.slice q5 L5 c5) F' := ⟨R5.it.1, fun hne g hg => by
        rcases R5.it.2 with h | h
        · obtain ⟨g2, o2, c2, e, _⟩ := Rd.at R5.it.1 hne
          injection e with e1 e2 e3
          subst e1
          simp only [Value.ownBlock, Option.some.injEq] at hg
          subst hg
          exact give_new (h _ _ _ _ rfl)
        · have hl : F'.length = F.length := by
            obtain ⟨_, _, e1⟩ := R5.it.1.shape
            obtain ⟨_, _, e2⟩ := G.it.1.fed.1.shape
            rw [← h] at e2
            injection e1 with _ e1
            injection e2 with _ e2
            omega
          have hF : F ≠ [] := fun e => by rw [e] at hl; exact hne (List.eq_nil_of_length_eq_zero hl)
          rw [h] at hg
          have := G.it.1.fed.2 hF g hg
          obtain ⟨g2, o2, c2, e, _, hc⟩ := Rd.at G.it.1.fed.1 hF
          injection e with e1 e2 e3
          subst e1
          simp only [Value.ownBlock, Option.some.injEq] at hg
          subst hg
          obtain ⟨y, ys, hy⟩ : ∃ y ys, F = y :: ys := by cases F with | nil => exact absurd rfl hF | cons y ys => exact ⟨y, ys, rfl⟩
          have hlt := World.block_lt_of_cell? wr _ (hc 0 (.int .u8 y) (by rw [hy]; rfl))
          rw [give_old hlt]
          exact this⟩
      have FP6 := Aside.mk (FP.sx s6.sx (fun x => x))
      have WM : RdL (give own wr.heap.size 7) 7 w5 (.slice fq5 fl5 fc5) (gotM most F z.ns) := MsgsN.to M5.it (fun g hg => give_new hg)
      have WM6 := Aside.mk (WM.sn s6 (fun x => x))
      have L6 := Aside.mk (G.it.1.L.sn s56 (fun x => x) (fun x => x) (fun x => x))
      have X6 := Aside.mk (G.it.1.box.sn s56 (fun x => x))
      have NB := Aside.mk NB
      have FO1 := Aside.mk FO
      have HF := Aside.mk (And.intro hF' (fedM_bytes (most := most) G.it.1.byt HZB.it.1))
      have BR6 : Aside (Below w.heap.size w W6) := ⟨BR.it.trans ((k5.trans k6).bel.mono BR.it.size)⟩
      have n56 : Aside (w5.heap.size ≠ mb) := ⟨fun e => by have h1 := G.it.1.box.1.lt; have h2 := k5.size; omega⟩
      have GL := Aside.mk G.it.2
      rw [← hW6]
      clear hW6 k5 s5 k6 s6 s56 hown6 FP WM R5 M5 G hF' cz m0 m1 FO
      generalize w5.heap.size = nb at NB n56 ⊢
      have k7 : Keeps Nowhere W6 (W6.alloc (.cells #[] 5)) := (Keeps.refl _ _).alloc _
      have RZ : Aside (Rd (W6.alloc (.cells #[] 5)) (.slice pz n kz) z.ns) := ⟨HZR.it.later (BR6.it.trans (k7.bel.mono BR6.it.size))⟩
      have bnd : Aside (([] : List Int).length + z.ns.length ≤ 140737488355328) := ⟨by have := HSU.it; have := HM.it.2; rw [HZB.it.2]; simp; omega⟩
      have hz41 : Aside (z.ns.length ≤ 2199023255552) := ⟨by have := HSU.it; have := HM.it.2; rw [HZB.it.2]; omega⟩
      clear k7
      go_upto_region 12 with (first
        | (at_builtin; refine wpList_appendO rfl (.tmp 54) (.tmp 55) rfl (.slice (some ⟨W6.heap.size, 0, none⟩) 0 0) (.slice pz n kz) [] z.ns (owns_any (owns_empty W6 5)) RZ.it bnd.it rfl rfl ?_; intro q8 l8 c8 w8 O8 K8 B8
           have LC := Aside.mk (lm_copied L6.it ((Keeps.refl _ _).alloc _) O8.it K8.it B8.it)
           have FD := Aside.mk (lm_feed LC.it.2.1 LC.it.2.2 HZB.it.1 hz41.it))
        | (go_at_call 12; refine FD.it.mono ?_; clear FD; rintro e w9 ⟨gq, gl, gc, ev9, own9, rfl, C9, X9⟩)
        | fail)
      rw [HO2.it.1, HO2.it.2] at C9
      rw [HO2.it.1] at X9
      have X9b := Aside.mk ((X6.it.sn LC.it.1 (fun x => x)).sx X9.it.2.2 (by rintro (e | e | e) <;> omega))
      have NB9 := Aside.mk ((NB.it.sn LC.it.1 (fun x => x)).sx X9.it.2.2 (by rintro (e | e | e) <;> omega))
      have FP9 := Aside.mk ((FP6.it.sx LC.it.1.sx (fun x => x)).sx X9.it.2.2 (by rintro (e | e | e) <;> omega))
      have WM9 := Aside.mk ((WM6.it.sn LC.it.1 (fun x => x)).sx X9.it.2.2 (by rintro (e | e | e) <;> omega))
      have b0 : w9.cell? ⟨nb, 0, none⟩ = some (.int .i64 most) := by rw [NB9.it.1.cell]; rfl
      have b1 : w9.cell? ⟨nb, 1, none⟩ = some (.slice q5 L5 c5) := by rw [NB9.it.1.cell]; rfl
      have TH := Aside.mk (there2 X9b.it.1)
      have TI := Aside.mk (read27Info (.int .i64 most) (.slice q5 L5 c5))
      have TO : Aside ((#[.int .i64 most, .slice q5 L5 c5] : Array Value).all (·.oneCell') = true) := ⟨by simp [Value.oneCell']⟩
      clear X6 NB FP6 WM6 LC L6
      go_upto_region 13 with (first | (refine wpList_store_mid rfl 39 _ _ rfl mb 0 #[.int .i64 most, .slice q5 L5 c5] rfl rfl TH.it TI.it TO.it ?_) | fail)
      have S10 : Sn (fun k => k = 6) own9 w9 own9 (w9.setCells mb 0 (#[.int .i64 most, .slice q5 L5 c5] : Array Value).toList) := ⟨fun _ _ => rfl, ((Keeps.refl _ _).setCell ⟨mb, 0, none⟩ (.int .i64 most) (fun _ => X9b.it.2)).setCell ⟨mb, 1, none⟩ (.slice q5 L5 c5) (fun _ => X9b.it.2)⟩
      have C10 : Cells (w9.setCells mb 0 (#[.int .i64 most, .slice q5 L5 c5] : Array Value).toList) mb 39 [.int .i64 most, .slice q5 L5 c5] := (X9b.it.1.setCell 0 (.int .i64 most)).setCell 1 (.slice q5 L5 c5)
      have hO2b : AreBytes F' := by rw [← HF.it.1]; exact HF.it.2
      have L10 : Lm A w1 own9 (w9.setCells mb 0 (#[.int .i64 most, .slice q5 L5 c5] : Array Value).toList) p most O2.rest O2.dead := X9.it.1.sn S10 (by decide) (by decide) (by decide)
      have FP10 := FP9.it.sx S10.sx (by decide)
      have WM10 := WM9.it.sn S10 (by decide)
      have GM10 := (X9.it.2.1.sx S10.sx (by decide) (fun k hk e => by omega)).rdL
      rw [FO1.it.2.2.1] at WM10
      have RG10 : Rg A w1 own9 (w9.setCells mb 0 (#[.int .i64 most, .slice q5 L5 c5] : Array Value).toList) p most F' mb (.slice q5 L5 c5) := ⟨by rw [FO1.it.1, FO1.it.2.1]; exact L10, ⟨C10, X9b.it.2⟩, FP10, hO2b⟩
      have BO : (∀ x ∈ O2.ms, AreBytes x) ∧ O2.ms.length ≤ 16777216 := by
        have hlen : F'.length ≤ 16777216 := by
          rw [← HF.it.1]
          have := fedM_len (most := most) F z.ns
          have := HSU.it
          have := HM.it.2
          have := HZB.it.2
          omega
        have h1 := fedM_next (most := most) F z.ns
        rw [HF.it.1, FO1.it.2.2.1] at h1
        have h2 := parse_bytes (most := most) hO2b
        have h3 := parse_cnt most F'
        rw [h1] at h2 h3
        simp only [List.length_append] at h3
        exact ⟨fun x hx => h2 x (List.mem_append_right _ hx), by omega⟩
      have hF'l : F'.length ≤ 16777216 := by
        rw [← HF.it.1]
        have := fedM_len (most := most) F z.ns
        have := HSU.it
        have := HM.it.2
        have := HZB.it.2
        omega
      have LEN : Aside (F'.length ≤ ((zs.take (i + 1)).map (fun z => z.ns.length)).sum) := ⟨by
        rw [← HF.it.1]
        have := fedM_len (most := most) F z.ns
        have := HSU.it
        have := HZB.it.2
        omega⟩
      have SMk := Aside.mk (show Ke (w9.setCells mb 0 (#[.int .i64 most, .slice q5 L5 c5] : Array Value).toList) 17 #[.slice gq gl gc, .slice fq5 fl5 fc5] (.bool true) from Ke.drew (fun W' k => by
        have := same27 (RdL.quiet GM10 k) (RdL.quiet WM10 k) BO.1 BO.1 BO.2 BO.2
        simpa using this))
      have CDk := Aside.mk (lm_code L10 C9.out)
      have HLk := Aside.mk (lm_held L10)
      have DNk := Aside.mk (lm_done L10)
      have CDd := Aside.mk (lm_code L10 (doneC_coded A O2.rest O2.dead))
      have RHk := Aside.mk (show Ke (w9.setCells mb 0 (#[.int .i64 most, .slice q5 L5 c5] : Array Value).toList) 19 #[.agg #[.int .i64 most, .slice q5 L5 c5]] (.int .i64 O2.rest.length) from Ke.below (fun W' k => by
        have := refHeld27 (most := most) q5 L5 c5 (FP10.1.later k.bel) hO2b hF'l HMo.it
        rw [held_same, FO1.it.1] at this
        exact this))
      have RDk := Aside.mk (show Ke (w9.setCells mb 0 (#[.int .i64 most, .slice q5 L5 c5] : Array Value).toList) 21 #[.agg #[.int .i64 most, .slice q5 L5 c5]] (.int .i64 (doneC O2.rest O2.dead)) from Ke.below (fun W' k => by
        have := refDone27 (most := most) q5 L5 c5 (FP10.1.later k.bel) hO2b hF'l HMo.it
        rw [done_same, FO1.it.1, FO1.it.2.1] at this
        exact this))
      have RG10 := Aside.mk RG10
      have x0 : (w9.setCells mb 0 (#[.int .i64 most, .slice q5 L5 c5] : Array Value).toList).cell? ⟨mb, 0, none⟩ = some (.int .i64 most) := by rw [C10.cell]; rfl
      have x1 : (w9.setCells mb 0 (#[.int .i64 most, .slice q5 L5 c5] : Array Value).toList).cell? ⟨mb, 1, none⟩ = some (.slice q5 L5 c5) := by rw [C10.cell]; rfl
      obtain ⟨dv, hdv⟩ : ∃ dv, errV A (doneC O2.rest O2.dead) = dv := ⟨_, rfl⟩
      obtain ⟨dn, hdn⟩ : ∃ dn, doneC O2.rest O2.dead = dn := ⟨_, rfl⟩
      rw [hdv] at DNk
      rw [hdv, hdn] at CDd
      rw [hdn] at RDk
      obtain ⟨nr, hnr⟩ : ∃ nr, O2.rest.length = nr := ⟨_, rfl⟩
      rw [hnr] at HLk RHk
      clear S10 C10 hO2b L10 FP10 WM10 GM10 BO hF'l hdv hdn hnr b0 b1 X9 X9b NB9 FP9 WM9 C9 TH TI TO
      dsimp only [Act.put]
      generalize w9.setCells mb 0 (#[.int .i64 most, .slice q5 L5 c5] : Array Value).toList = w10 at SMk CDk HLk DNk CDd RHk RDk RG10 x0 x1 ⊢
      have y0 := fun n : KeW w10 => KeW.cell x0 n
      have y1 := fun n : KeW w10 => KeW.cell x1 n
      have C1 := Aside.mk (fun s => KeW.call SMk.it s)
      have C2 := Aside.mk (fun s => KeW.call CDk.it s)
      have C3 := Aside.mk (fun s => KeW.call HLk.it s)
      have C4 := Aside.mk (fun s => KeW.call DNk.it s)
      have C5 := Aside.mk (fun s => KeW.call CDd.it s)
      have C6 := Aside.mk (fun s => KeW.call RHk.it s)
      have C7 := Aside.mk (fun s => KeW.call RDk.it s)
      have e0 : (kc != kc) = false := by simp
      have e1 : (nr != nr) = false := by simp
      have e2 : (dn != dn) = false := by simp
      haveI : Nonempty (KeW w10) := ⟨⟨w10, Keeps.refl _ _⟩⟩
      refine wp_region_quietF (KeW.W (w1 := w10)) (by kernel_rfl) (by kernel_rfl) ⟨w10.drew, (Keeps.refl _ _).drew⟩ rfl ?_
      repeat (go_big_quiet_step (first
        | (go_at_call 17; exact C1.it _)
        | (go_at_call_of 10 ev9; exact C2.it _)
        | (go_at_call_of 10 dv; exact C5.it _)
        | (go_at_call 18; exact C3.it _)
        | (go_at_call 20; exact C4.it _)
        | (go_at_call 19; exact C6.it _)
        | (go_at_call 21; exact C7.it _)))
      refine wpQuiet_nil ?_
      rintro _ ⟨n11, rfl⟩
      have Y := Aside.mk (RG10.it.quiet n11.ok)
      clear y0 y1 C1 C2 C3 C4 C5 C6 C7 RG10 SMk CDk HLk DNk CDd RHk RDk x0 x1 this
      generalize n11.W = w11 at *
      go_wp2
      go_roundw
      case rel => exact ⟨i + 1, own9, F', .slice q5 L5 c5, by go_num, by omega, ⟨Y.it, LEN.it⟩⟩
      case measure => simp [natG]; omega
set_option maxRecDepth 20000 in
set_option maxHeartbeats 4000000 in
theorem msgReads_bad (most : Int) (hm : most < 0 ∨ 1048576 < most) (v : Value) (zs : List PcV) (hs : Sents 86 codeVars A w) (hz : PiecesArg w v zs) :
    Calls Tryd.prog 5 #[.int .i64 most, v] w fun e w' => e = .returned (.bool true) ∧ Below w.heap.size w w' := by
  obtain ⟨hz1, hz2, sa, sc, rfl, hsc1, hsc2, hzc⟩ := hz
  obtain ⟨M, hM⟩ : ∃ M, zs.length = M := ⟨_, rfl⟩
  rw [hM] at hz1 hsc1 ⊢
  have F := Aside.mk (fixed27 hs)
  have HZ := Aside.mk hzc
  have HM := Aside.mk (And.intro hM hz2)
  have HS := Aside.mk hs
  have HMo := Aside.mk hm
  clear hs hzc hM hz2 hm
  go_enter Tryd.func5, Tryd.ntmps5
  go_upto_region 3 with (first | (go_at_call 13; refine F.it.mono ?_; clear F; rintro e w1 ⟨rfl, B1⟩) | fail)
  have NW := Aside.mk (newM_no (A := A) HMo.it (HS.it.later B1.it))
  go_upto_region 4 with (first | (go_at_call 9; refine NW.it.mono ?_; clear NW; rintro e w2 ⟨rfl, K2⟩) | fail)
  have ND := Aside.mk (refNew27_bad (w := w2) HMo.it)
  go_upto_region 5 with (first | (go_at_call 15; refine ND.it.mono ?_; clear ND; rintro e w3 ⟨rfl, B3⟩) | fail)
  have K3 : Keeps Nowhere w2 w3 := Keeps.ofBelow B3.it
  have KA : Keeps Nowhere w3 (w3.alloc (.cells #[.int .i64 (-1), .slice none 0 0] 39)) := (Keeps.refl _ _).alloc _
  have G0 : Aside (Cells (w3.alloc (.cells #[.int .i64 (-1), .slice none 0 0] 39)) w3.heap.size 39 [.int .i64 (-1), .slice none 0 0]) := ⟨Cells.new _ _ _⟩
  have HMB : Aside (w.heap.size ≤ w3.heap.size) := ⟨Nat.le_trans B1.it.size (Nat.le_trans K2.it.size K3.size)⟩
  have BW : Aside (Below w.heap.size w (w3.alloc (.cells #[.int .i64 (-1), .slice none 0 0] 39))) := ⟨B1.it.trans (((K2.it.trans K3).trans KA).bel.mono B1.it.size)⟩
  have CD := Aside.mk (code_of (HS.it.later BW.it) (show Coded A (.iface 86 (.pointer (some (A 1)))) 2 from Coded.mk 1 2 (by decide) (by decide) rfl))
  clear K2 B3 K3 KA
  generalize w3.alloc (.cells #[.int .i64 (-1), .slice none 0 0] 39) = w4 at G0 BW CD ⊢
  generalize w3.heap.size = mb at G0 HMB ⊢
  go_upto_region 8 with (first | (go_at_call 10; refine CD.it.mono ?_; clear CD; rintro e w5 ⟨rfl, hw5⟩; rw [hw5]; clear hw5) | fail)
  go_loopw [41] (fun iv wr => ∃ (i : Nat), iv = .int .i64 i ∧ i ≤ M ∧ Aside (Cells wr mb 39 [.int .i64 (-1), .slice none 0 0] ∧ Below w.heap.size w wr)) (fun iv _ => M - natG iv)
  case atStart => exact ⟨0, rfl, Nat.zero_le _, ⟨G0.it, BW.it⟩⟩
  case round =>
    clear G0 BW
    obtain ⟨i, rfl, hi, G⟩ := hrel
    rcases Nat.eq_or_lt_of_le hi with e | hlt
    · subst e
      go_wp2_with fail
      go_ret
      exact ⟨rfl, G.it.2⟩
    · obtain ⟨z, hzi⟩ : ∃ z, zs[i]? = some z := ⟨_, List.getElem?_eq_getElem (by rw [HM.it.1]; exact hlt)⟩
      obtain ⟨gz, oz, cs, rfl, ⟨rfl, hzr, hzb⟩, _, hcs⟩ := HZ.it i z hzi
      have cz : wr.cell? ⟨gz, oz + i, none⟩ = some z.sl := by
        have := hcs 0 (by decide)
        rw [Nat.mul_one, Nat.add_zero] at this
        rw [G.it.2.cell (World.block_lt_of_cell? w _ this)]
        exact this
      obtain ⟨pz, kz, hzsl⟩ := hzr.shape
      obtain ⟨n, hn⟩ : ∃ n, z.ns.length = n := ⟨_, rfl⟩
      have hsum := sum_take hzi
      have hle := sum_le (zs := zs) (i + 1)
      have hnl : Aside (n ≤ 16777216) := ⟨by have := HM.it.2; omega⟩
      rw [hn] at hzsl
      rw [hzsl] at cz hzr
      have FD := Aside.mk (refFeed27_nil (w := wr) none 0 0 (.slice pz n kz))
      have m0 : wr.cell? ⟨mb, 0, none⟩ = some (.int .i64 (-1)) := by rw [G.it.1.cell]; rfl
      have m1 : wr.cell? ⟨mb, 1, none⟩ = some (.slice none 0 0) := by rw [G.it.1.cell]; rfl
      have hlt' : (i : Int) < (M : Int) := by omega
      have HZR := Aside.mk hzr
      have HN := Aside.mk hn
      clear hcs hzr hzb hn hsum hle hzi hzsl
      go_upto_region 11 with (first | (go_at_call 16; refine FD.it.mono ?_; clear FD; rintro e w5 ⟨rfl, B5⟩) | fail)
      obtain ⟨W6, hW6⟩ : ∃ W6, W6 = w5.alloc (.cells #[.int .i64 (-1), .slice none 0 0] 39) := ⟨_, rfl⟩
      have k6 : Keeps Nowhere w5 W6 := by rw [hW6]; exact (Keeps.refl _ _).alloc _
      have NB : Aside (Cells W6 w5.heap.size 39 [.int .i64 (-1), .slice none 0 0]) := ⟨by rw [hW6]; exact Cells.new _ _ _⟩
      have kw6 : Keeps Nowhere wr W6 := (Keeps.ofBelow B5.it).trans k6
      have BR6 : Aside (Below w.heap.size w W6) := ⟨G.it.2.trans (kw6.bel.mono G.it.2.size)⟩
      have X6 := Aside.mk (G.it.1.later kw6 (fun x => x))
      rw [← hW6]
      clear hW6 k6 kw6 B5 cz m0 m1 G
      generalize w5.heap.size = nb at NB ⊢
      have k7 : Keeps Nowhere W6 (W6.alloc (.cells #[] 5)) := (Keeps.refl _ _).alloc _
      have RZ : Aside (Rd (W6.alloc (.cells #[] 5)) (.slice pz n kz) z.ns) := ⟨HZR.it.later (BR6.it.trans (k7.bel.mono BR6.it.size))⟩
      have bnd : Aside (([] : List Int).length + z.ns.length ≤ 140737488355328) := ⟨by have := hnl.it; rw [HN.it]; simp; omega⟩
      clear k7
      go_upto_region 12 with (first
        | (at_builtin; refine wpList_appendO rfl (.tmp 54) (.tmp 55) rfl (.slice (some ⟨W6.heap.size, 0, none⟩) 0 0) (.slice pz n kz) [] z.ns (owns_any (owns_empty W6 5)) RZ.it bnd.it rfl rfl ?_; intro q8 l8 c8 w8 O8 K8 B8
           have kk : Aside (Keeps Nowhere W6 w8) := ⟨((Keeps.refl Nowhere W6).alloc _).next K8.it (fun k hk hlt => by
             simp only [Value.ownBlock, Option.some.injEq] at hk
             omega)⟩
           have B8w : Aside (Below w.heap.size w w8) := ⟨BR6.it.trans (kk.it.bel.mono BR6.it.size)⟩
           have FD := Aside.mk (feedM_nil (HS.it.later B8w.it) (.slice q8 l8 c8)))
        | (go_at_call 12; refine FD.it.mono ?_; clear FD; rintro e w9 ⟨rfl, m9, rfl⟩)
        | fail)
      have kk9 : Keeps Nowhere W6 (w8.drewN m9) := kk.it.trans ((Keeps.refl _ _).drewN _)
      have X9b := Aside.mk (X6.it.later kk9 (fun x => x))
      have NB9 := Aside.mk (NB.it.later kk9 (fun x => x))
      have B9 : Aside (Below w.heap.size w (w8.drewN m9)) := ⟨BR6.it.trans (kk9.bel.mono BR6.it.size)⟩
      clear kk9 X6 NB O8 K8 B8 B8w kk
      generalize w8.drewN m9 = w9 at *
      have b0 : w9.cell? ⟨nb, 0, none⟩ = some (.int .i64 (-1)) := by rw [NB9.it.cell]; rfl
      have b1 : w9.cell? ⟨nb, 1, none⟩ = some (.slice none 0 0) := by rw [NB9.it.cell]; rfl
      have TH := Aside.mk (there2 X9b.it)
      have TI := Aside.mk (read27Info (.int .i64 (-1)) (.slice none 0 0))
      have TO : Aside ((#[.int .i64 (-1), .slice none 0 0] : Array Value).all (·.oneCell') = true) := ⟨by simp [Value.oneCell']⟩
      go_upto_region 13 with (first | (refine wpList_store_mid rfl 39 _ _ rfl mb 0 #[.int .i64 (-1), .slice none 0 0] rfl rfl TH.it TI.it TO.it ?_) | fail)
      have C10 : Cells (w9.setCells mb 0 (#[.int .i64 (-1), .slice none 0 0] : Array Value).toList) mb 39 [.int .i64 (-1), .slice none 0 0] := (X9b.it.setCell 0 (.int .i64 (-1))).setCell 1 (.slice none 0 0)
      have B10 : Below w.heap.size w (w9.setCells mb 0 (#[.int .i64 (-1), .slice none 0 0] : Array Value).toList) := (B9.it.setCell (p := ⟨mb, 0, none⟩) (u := .int .i64 (-1)) HMB.it).setCell (p := ⟨mb, 1, none⟩) (u := .slice none 0 0) HMB.it
      clear b0 b1 X9b NB9 TH TI TO B9
      dsimp only [Act.put]
      generalize w9.setCells mb 0 (#[.int .i64 (-1), .slice none 0 0] : Array Value).toList = w10 at C10 B10 ⊢
      have S10 := HS.it.later B10
      have hw10 := B10.size
      have SMk := Aside.mk (show Ke w10 17 #[.slice none 0 0, .slice none 0 0] (.bool true) from Ke.drew (fun W' k => by
        have := same27 (RdL.nil (fun _ => 0) 0 W') (RdL.nil (fun _ => 0) 0 W') (fun x hx => by cases hx) (fun x hx => by cases hx) (by simp) (by simp)
        simpa using this))
      have CDk := Aside.mk (show Ke w10 10 #[.iface 86 (.pointer (some (A 0)))] (.int .i64 1) from Ke.still (fun W' k => code_of (S10.later (k.bel.mono (Nat.le_refl _))) (Coded.mk 0 1 (by decide) (by decide) rfl)))
      have HLk := Aside.mk (show Ke w10 18 #[.pointer none] (.int .i64 0) from Ke.still (fun W' k => heldM_nil))
      have DNk := Aside.mk (show Ke w10 20 #[.pointer none] (.iface 86 (.pointer (some (A 0)))) from Ke.still (fun W' k => doneR_nil (S10.later (k.bel.mono (Nat.le_refl _)))))
      have RHk := Aside.mk (show Ke w10 19 #[.agg #[.int .i64 (-1), .slice none 0 0]] (.int .i64 0) from Ke.below (fun W' k => refHeld27_nil none 0 0))
      have RDk := Aside.mk (show Ke w10 21 #[.agg #[.int .i64 (-1), .slice none 0 0]] (.int .i64 1) from Ke.below (fun W' k => refDone27_nil none 0 0))
      have x0 : w10.cell? ⟨mb, 0, none⟩ = some (.int .i64 (-1)) := by rw [C10.cell]; rfl
      have x1 : w10.cell? ⟨mb, 1, none⟩ = some (.slice none 0 0) := by rw [C10.cell]; rfl
      have RG10 := Aside.mk (And.intro C10 B10)
      clear S10 hw10 C10 B10
      have y0 := fun n : KeW w10 => KeW.cell x0 n
      have y1 := fun n : KeW w10 => KeW.cell x1 n
      have C1 := Aside.mk (fun s => KeW.call SMk.it s)
      have C2 := Aside.mk (fun s => KeW.call CDk.it s)
      have C3 := Aside.mk (fun s => KeW.call HLk.it s)
      have C4 := Aside.mk (fun s => KeW.call DNk.it s)
      have C6 := Aside.mk (fun s => KeW.call RHk.it s)
      have C7 := Aside.mk (fun s => KeW.call RDk.it s)
      haveI : Nonempty (KeW w10) := ⟨⟨w10, Keeps.refl _ _⟩⟩
      refine wp_region_quietF (KeW.W (w1 := w10)) (by kernel_rfl) (by kernel_rfl) ⟨w10.drew, (Keeps.refl _ _).drew⟩ rfl ?_
      repeat (go_big_quiet_step (first
        | (go_at_call 17; exact C1.it _)
        | (go_at_call 10; exact C2.it _)
        | (go_at_call 18; exact C3.it _)
        | (go_at_call 20; exact C4.it _)
        | (go_at_call 19; exact C6.it _)
        | (go_at_call 21; exact C7.it _)))
      refine wpQuiet_nil ?_
      rintro _ ⟨n11, rfl⟩
      have Y : Aside (Cells n11.W mb 39 [.int .i64 (-1), .slice none 0 0] ∧ Below w.heap.size w n11.W) := ⟨RG10.it.1.later n11.ok (fun x => x), RG10.it.2.trans (n11.ok.bel.mono RG10.it.2.size)⟩
      clear y0 y1 C1 C2 C3 C4 C6 C7 RG10 SMk CDk HLk DNk RHk RDk x0 x1 this
      generalize n11.W = w11 at *
      go_wp2
      go_roundw
      case rel => exact ⟨i + 1, by go_num, by omega, Y⟩
      case measure => simp [natG]; omega
theorem msgReads_walkU (most : Int) (v : Value) (zs : List PcV) (w : World) (hs : Sents 86 codeVars A w) (hz : PiecesArg w v zs) :
    Calls Tryd.prog 5 #[.int .i64 most, v] w fun e w' => e = .returned (.bool true) ∧ Below w.heap.size w w' := by
  by_cases h : 0 ≤ most ∧ most ≤ 1048576
  · obtain ⟨n, rfl⟩ := Int.eq_ofNat_of_zero_le h.1
    exact msgReads_good (by omega) v zs hs hz
  · exact msgReads_bad most (by omega) v zs hs hz
end
end Go.Proofs.YtllioaclnkkhhaaDoor

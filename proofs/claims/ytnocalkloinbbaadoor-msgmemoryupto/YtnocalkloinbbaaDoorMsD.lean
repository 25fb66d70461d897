/-
  culvertref27.Say: what the document says of the bytes that were fed (region 10 by hand: gen_MsD.py)
-/
import Derived.Test.YtnocalkloinbbaaDoorMsC
import Derived.Deep.RegionHeldLaw
import Derived.Deep.RegionHeld3
import Derived.Deep.DeepCutAuto
namespace Go.Proofs.YtnocalkloinbbaaDoor
open Go.RowKit

/-- what is left of the bytes -/
structure Sr (most : Nat) (F : List Int) (ms : List (List Int)) (t : Nat) : Prop where
  le : t ≤ F.length
  len : ms.length ≤ t
  eq : parseM most F = ⟨ms ++ (parseM most (F.drop t)).ms, (parseM most (F.drop t)).rest, (parseM most (F.drop t)).dead⟩
theorem Sr.next {most t n k : Nat} {F : List Int} {ms : List (List Int)} (h : Sr most F ms t) (hd : hdM most (F.drop t) = some (some (n, k))) (hl : t + k + n ≤ F.length) : Sr most F (ms ++ [(F.drop (t + k)).take n]) (t + k + n) := by
  have hp := hdM_pos hd
  have e := parseM_more hd (by rw [List.length_drop]; omega)
  rw [List.drop_drop, List.drop_drop, ← Nat.add_assoc] at e
  refine ⟨hl, by rw [List.length_append, List.length_cons, List.length_nil]; have := h.len; omega, ?_⟩
  rw [h.eq, e]
  simp
/-- what Say says is held -/
def restM (o : MOut) : Nat := if o.dead then 0 else o.rest.length
section
variable {w W : World} {most : Nat} {q : Option Addr} {L c : Nat} {F : List Int} {fv : Value} {ms : List (List Int)} {own : Nat → Nat}
def natT (v : Value) : Nat := match v with | .int _ x => x.toNat | _ => 0
set_option maxRecDepth 20000 in
set_option maxHeartbeats 8000000 in
theorem say27 (q : Option Addr) (L c : Nat) (F : List Int) (R : Rd w (.slice q L c) F) (hb : AreBytes F) (hL : F.length ≤ 16777216) (hm : most ≤ 1048576) :
    Calls Tryd.prog 17 #[.agg #[.int .i64 most, .slice q L c]] w fun e w' => ∃ fq fl fc, e = .returned (.agg #[.slice fq fl fc, .int .i64 (restM (parseM most F)), .bool (parseM most F).dead]) ∧
      Aside (MsgsN w.heap.size w' (.slice fq fl fc) (parseM most F).ms) ∧ Aside (Below w.heap.size w w') := by
  have hLe : Aside (F.length = L ∧ L ≤ c) := by
    obtain ⟨x, y, e⟩ := R.shape
    injection e with _ e _
    have := R.1.len
    rw [bv_length] at this
    exact ⟨e.symm, by omega⟩
  have hL63 : (L : Int) ≤ 16777216 := by have := hLe.it.1; omega
  obtain ⟨own0, P0⟩ := Sm.start (most := most) R
  obtain ⟨w0, hw0⟩ : ∃ w0, w0 = ((w.alloc (.cells #[.int .i64 most, .slice q L c] 31)).alloc (.cells #[.slice none 0 0, .int .i64 0, .bool false] 50)).alloc (.cells #[.slice none 0 0, .int .i64 0, .bool false] 50) := ⟨_, rfl⟩
  rw [← hw0] at P0
  have P0 := Aside.mk P0
  have HB := Aside.mk hb
  have HMo := Aside.mk hm
  clear hb hL R hm
  go_enter Tryd.func17, Tryd.ntmps17
  go_upto_region 2 with fail
  rw [← hw0]
  clear hw0
  go_upto_region 3 with fail
  go_loopw [4] (fun av wr => ∃ (t : Nat) (ms : List (List Int)) (own : Nat → Nat) (fq : Option Addr) (fl fc : Nat), av = .int .i64 t ∧ Aside (Sr most F ms t) ∧ Aside (Sm w most q L c F own (.slice fq fl fc) ms wr)) (fun av _ => L - natT av)
  case atStart => exact ⟨0, [], own0, none, 0, 0, rfl, ⟨⟨Nat.zero_le _, Nat.le_refl _, rfl⟩⟩, P0⟩
  case round =>
    obtain ⟨t, ms, own, fq, fl, fc, rfl, SR, P1⟩ := hrel
    clear P0
    obtain ⟨m, hm⟩ : ∃ m, L = t + m := ⟨L - t, by have := SR.it.le; have := hLe.it.1; omega⟩
    have HM := Aside.mk hm
    have hTl : Aside ((F.drop t).length = m) := ⟨by rw [List.length_drop, hLe.it.1]; omega⟩
    have s1 : (L : Int) - t = m := by omega
    have s0 : (0 : Int) ≤ t := by omega
    have s2 : (t : Int) ≤ (L : Int) := by omega
    have s3 : (L : Int) ≤ (c : Int) := by have := hLe.it.2; omega
    have s4 : L - t = m := by omega
    obtain ⟨d0, d1, t0, t1, t2⟩ := P1.it.cells
    have RS := P1.it.seg (a := t) (n := m) (by rw [hLe.it.1]; omega)
    rw [show (F.drop t).take m = F.drop t from List.take_of_length_le (by rw [hTl.it]; omega)] at RS
    have BT : AreBytes (F.drop t) := fun x hx => HB.it x (List.mem_of_mem_drop hx)
    have hml : (F.drop t).length ≤ 140737488355328 := by rw [hTl.it]; omega
    go_upto_region 3 with fail
    go_cut [5, 6, 7] (fun av kv bv wx => ∃ (a : Int) (k : Nat) (bad : Bool) (x : Nat), av = .int .i64 a ∧ kv = .int .i64 k ∧ bv = .bool bad ∧ Aside (SzO most (F.drop t) a k bad) ∧ wx = wr.drewN x)
    case first =>
      by_cases hct : c = t
      · rw [if_pos hct] at RS
        subst hct
        obtain rfl : L = c := by omega
        obtain rfl : m = 0 := by omega
        rw [Nat.sub_self] at RS
        have SZ : Aside (∀ W, Keeps Nowhere wr W → Calls Tryd.prog 24 #[.slice q 0 0, .int .i64 most] W (SzR most (F.drop L) W)) := ⟨fun W hk => dSize (RS.later hk.bel) BT hml HMo.it⟩
        clear RS BT hml hm
        go_region_held3 (fun w' => w'.cell? ⟨w.heap.size, 0, none⟩ = some (.int .i64 most) ∧ w'.cell? ⟨w.heap.size, 1, none⟩ = some (.slice q L L)) (first | go_keep | exact ⟨d0, d1⟩) (first | (go_at_call 24; refine (SZ.it _ (by first | exact Keeps.refl _ _ | exact (Keeps.refl _ _).drew | exact (Keeps.refl _ _).drewN _)).mono ?_; rintro e w9 ⟨a, k, bad, rfl, HS, x, rfl⟩) | fail)
        all_goals
          go_wp2
          go_meet
          exact ⟨a, k, bad, _, rfl, rfl, rfl, HS, rfl⟩
      · rw [if_neg hct] at RS
        have SZ : Aside (∀ W, Keeps Nowhere wr W → Calls Tryd.prog 24 #[.slice (q.map (fun x => x.add t)) m (c - t), .int .i64 most] W (SzR most (F.drop t) W)) := ⟨fun W hk => dSize (RS.later hk.bel) BT hml HMo.it⟩
        clear RS BT hml hm
        go_region_held3 (fun w' => w'.cell? ⟨w.heap.size, 0, none⟩ = some (.int .i64 most) ∧ w'.cell? ⟨w.heap.size, 1, none⟩ = some (.slice q L c)) (first | go_keep | exact ⟨d0, d1⟩) (first | (go_at_call 24; refine (SZ.it _ (by first | exact Keeps.refl _ _ | exact (Keeps.refl _ _).drew | exact (Keeps.refl _ _).drewN _)).mono ?_; rintro e w9 ⟨a, k, bad, rfl, HS, x, rfl⟩) | fail)
        all_goals
          go_wp2
          go_meet
          exact ⟨a, k, bad, _, rfl, rfl, rfl, HS, rfl⟩
    case rest =>
      obtain ⟨a, k, bad, x, rfl, rfl, rfl, HS, hwc⟩ := hcut
      have P2 := Aside.mk (P1.it.quiet (((Keeps.refl _ _).drewN x)))
      rw [hwc]
      clear hwc d0 d1 t0 t1 t2 RS BT hml hm P1
      generalize wr.drewN x = W2 at P2 ⊢
      obtain ⟨d0, d1, t0, t1, t2⟩ := P2.it.cells
      cases hd : hdM most (F.drop t) with
      | none =>
        have hs : a = 0 ∧ k = 0 ∧ bad = false := by have := HS.it; unfold SzO at this; rw [hd] at this; exact this
        obtain ⟨rfl, rfl, rfl⟩ := hs
        have HPP : Aside (parseM most F = ⟨ms, F.drop t, false⟩) := ⟨by have h9 := SR.it.eq; rw [parseM_none hd] at h9; simpa using h9⟩
        have HR : Aside (restM ⟨ms, F.drop t, false⟩ = m) := ⟨hTl.it⟩
        clear HS hd
        have PD := P2.it.done (j := 1) (u := .int .i64 m) (x := .slice fq fl fc) (a := m) (b := false)
        have T5 := P2.it.t.1.setCell 1 (.int .i64 m)
        have R5 : Cells (W2.setCell ⟨w.heap.size + 2, 1, none⟩ (.int .i64 m)) (w.heap.size + 1) 50 [.slice none 0 0, .int .i64 0, .bool false] := P2.it.res.1.setOther _ _ (by show w.heap.size + 1 ≠ w.heap.size + 2; omega)
        have f1 : W2.frozen? ⟨w.heap.size + 2, 1, none⟩ = false := P2.it.t.1.frozen 1
        have u0 := T5.cell 0
        have u1 := T5.cell 1
        have u2 := T5.cell 2
        simp only [List.getElem?_cons_zero, List.getElem?_cons_succ, List.set_cons_zero, List.set_cons_succ] at u0 u1 u2
        have TH := Aside.mk (there3 R5)
        have TI := Aside.mk (told27Info (.slice fq fl fc) m false)
        have TO : Aside ((#[.slice fq fl fc, .int .i64 m, .bool false] : Array Value).all (·.oneCell') = true) := ⟨by simp [Value.oneCell']⟩
        have PD := Aside.mk PD
        clear T5 R5
        go_upto_region 9 with fail
        generalize W2.setCell ⟨w.heap.size + 2, 1, none⟩ (.int .i64 m) = w5 at PD u0 u1 u2 TH ⊢
        clear d0 d1 t0 t1 t2 f1
        go_wp2_with (first | (refine wpList_store_mid rfl 50 _ _ rfl (w.heap.size + 1) 0 #[.slice fq fl fc, .int .i64 m, .bool false] rfl rfl TH.it TI.it TO.it ?_; obtain ⟨C6, M6, B6⟩ := PD.it; have M6 := Aside.mk M6; have B6 := Aside.mk B6; generalize w5.setCells (w.heap.size + 1) 0 (#[.slice fq fl fc, .int .i64 m, .bool false] : Array Value).toList = w6 at C6 M6 B6 ⊢; have r0 : w6.cell? ⟨w.heap.size + 1, 0, none⟩ = some (.slice fq fl fc) := (by rw [C6.cell]; rfl); have r1 : w6.cell? ⟨w.heap.size + 1, 1, none⟩ = some (.int .i64 m) := (by rw [C6.cell]; rfl); have r2 : w6.cell? ⟨w.heap.size + 1, 2, none⟩ = some (.bool false) := (by rw [C6.cell]; rfl)) | fail)
        refine bodyPost_ret (v := .agg #[.slice fq fl fc, .int .i64 m, .bool false]) (by simp [results, Tryd.results17, go_sem, r0, r1, r2]) rfl ?_
        rw [HPP.it]
        rw [HR.it]
        exact ⟨fq, fl, fc, rfl, ⟨by simpa using M6.it⟩, B6⟩
      | some o =>
        cases o with
        | none =>
          have hs : bad = true := by have := HS.it; unfold SzO at this; rw [hd] at this; exact this
          subst hs
          have HPP : Aside (parseM most F = ⟨ms, [], true⟩) := ⟨by have h9 := SR.it.eq; rw [parseM_bad hd] at h9; simpa using h9⟩
          clear HS hd
          have PD := P2.it.done (j := 2) (u := .bool true) (x := .slice fq fl fc) (a := 0) (b := true)
          have T5 := P2.it.t.1.setCell 2 (.bool true)
          have R5 : Cells (W2.setCell ⟨w.heap.size + 2, 2, none⟩ (.bool true)) (w.heap.size + 1) 50 [.slice none 0 0, .int .i64 0, .bool false] := P2.it.res.1.setOther _ _ (by show w.heap.size + 1 ≠ w.heap.size + 2; omega)
          have f1 : W2.frozen? ⟨w.heap.size + 2, 2, none⟩ = false := P2.it.t.1.frozen 2
          have u0 := T5.cell 0
          have u1 := T5.cell 1
          have u2 := T5.cell 2
          simp only [List.getElem?_cons_zero, List.getElem?_cons_succ, List.set_cons_zero, List.set_cons_succ] at u0 u1 u2
          have TH := Aside.mk (there3 R5)
          have TI := Aside.mk (told27Info (.slice fq fl fc) 0 true)
          have TO : Aside ((#[.slice fq fl fc, .int .i64 0, .bool true] : Array Value).all (·.oneCell') = true) := ⟨by simp [Value.oneCell']⟩
          have PD := Aside.mk PD
          clear T5 R5
          go_upto_region 6 with fail
          generalize W2.setCell ⟨w.heap.size + 2, 2, none⟩ (.bool true) = w5 at PD u0 u1 u2 TH ⊢
          clear d0 d1 t0 t1 t2 f1
          go_wp2_with (first | (refine wpList_store_mid rfl 50 _ _ rfl (w.heap.size + 1) 0 #[.slice fq fl fc, .int .i64 0, .bool true] rfl rfl TH.it TI.it TO.it ?_; obtain ⟨C6, M6, B6⟩ := PD.it; have M6 := Aside.mk M6; have B6 := Aside.mk B6; generalize w5.setCells (w.heap.size + 1) 0 (#[.slice fq fl fc, .int .i64 0, .bool true] : Array Value).toList = w6 at C6 M6 B6 ⊢; have r0 : w6.cell? ⟨w.heap.size + 1, 0, none⟩ = some (.slice fq fl fc) := (by rw [C6.cell]; rfl); have r1 : w6.cell? ⟨w.heap.size + 1, 1, none⟩ = some (.int .i64 0) := (by rw [C6.cell]; rfl); have r2 : w6.cell? ⟨w.heap.size + 1, 2, none⟩ = some (.bool true) := (by rw [C6.cell]; rfl)) | fail)
          refine bodyPost_ret (v := .agg #[.slice fq fl fc, .int .i64 0, .bool true]) (by simp [results, Tryd.results17, go_sem, r0, r1, r2]) rfl ?_
          rw [HPP.it]
          exact ⟨fq, fl, fc, rfl, ⟨by simpa using M6.it⟩, B6⟩
        | some o =>
          obtain ⟨n, k2⟩ := o
          have hs : a = (n : Int) ∧ k = k2 ∧ bad = false := by have := HS.it; unfold SzO at this; rw [hd] at this; exact this
          obtain ⟨rfl, rfl, rfl⟩ := hs
          have hp := hdM_pos hd
          have hkm : k ≤ m := by have := hp.2.2.2; rw [hTl.it] at this; exact this
          have HP := Aside.mk hp
          have k0 : ((k : Int) == 0) = false := by simp; omega
          have k1 : (k == 0) = false := by simp; omega
          have k2' : ¬ k = 0 := by omega
          by_cases hlt : m < k + n
          · have HPP : Aside (parseM most F = ⟨ms, F.drop t, false⟩) := ⟨by have h9 := SR.it.eq; rw [parseM_part hd (by rw [hTl.it]; exact hlt)] at h9; simpa using h9⟩
            have HR : Aside (restM ⟨ms, F.drop t, false⟩ = m) := ⟨hTl.it⟩
            have g1 : (m : Int) - k < n := by omega
            clear HS hd hp
            have PD := P2.it.done (j := 1) (u := .int .i64 m) (x := .slice fq fl fc) (a := m) (b := false)
            have T5 := P2.it.t.1.setCell 1 (.int .i64 m)
            have R5 : Cells (W2.setCell ⟨w.heap.size + 2, 1, none⟩ (.int .i64 m)) (w.heap.size + 1) 50 [.slice none 0 0, .int .i64 0, .bool false] := P2.it.res.1.setOther _ _ (by show w.heap.size + 1 ≠ w.heap.size + 2; omega)
            have f1 : W2.frozen? ⟨w.heap.size + 2, 1, none⟩ = false := P2.it.t.1.frozen 1
            have u0 := T5.cell 0
            have u1 := T5.cell 1
            have u2 := T5.cell 2
            simp only [List.getElem?_cons_zero, List.getElem?_cons_succ, List.set_cons_zero, List.set_cons_succ] at u0 u1 u2
            have TH := Aside.mk (there3 R5)
            have TI := Aside.mk (told27Info (.slice fq fl fc) m false)
            have TO : Aside ((#[.slice fq fl fc, .int .i64 m, .bool false] : Array Value).all (·.oneCell') = true) := ⟨by simp [Value.oneCell']⟩
            have PD := Aside.mk PD
            clear T5 R5
            go_upto_region 9 with fail
            generalize W2.setCell ⟨w.heap.size + 2, 1, none⟩ (.int .i64 m) = w5 at PD u0 u1 u2 TH ⊢
            clear d0 d1 t0 t1 t2 f1
            go_wp2_with (first | (refine wpList_store_mid rfl 50 _ _ rfl (w.heap.size + 1) 0 #[.slice fq fl fc, .int .i64 m, .bool false] rfl rfl TH.it TI.it TO.it ?_; obtain ⟨C6, M6, B6⟩ := PD.it; have M6 := Aside.mk M6; have B6 := Aside.mk B6; generalize w5.setCells (w.heap.size + 1) 0 (#[.slice fq fl fc, .int .i64 m, .bool false] : Array Value).toList = w6 at C6 M6 B6 ⊢; have r0 : w6.cell? ⟨w.heap.size + 1, 0, none⟩ = some (.slice fq fl fc) := (by rw [C6.cell]; rfl); have r1 : w6.cell? ⟨w.heap.size + 1, 1, none⟩ = some (.int .i64 m) := (by rw [C6.cell]; rfl); have r2 : w6.cell? ⟨w.heap.size + 1, 2, none⟩ = some (.bool false) := (by rw [C6.cell]; rfl)) | fail)
            refine bodyPost_ret (v := .agg #[.slice fq fl fc, .int .i64 m, .bool false]) (by simp [results, Tryd.results17, go_sem, r0, r1, r2]) rfl ?_
            rw [HPP.it]
            rw [HR.it]
            exact ⟨fq, fl, fc, rfl, ⟨by simpa using M6.it⟩, B6⟩
          · have g1 : ¬ (m : Int) - k < n := by omega
            have SRn := Aside.mk (SR.it.next hd (by have := HM.it; have := hLe.it.1; omega))
            obtain ⟨D, hD⟩ : ∃ D, Aside ((F.drop (t + k)).take n = D) := ⟨_, ⟨rfl⟩⟩
            rw [hD.it] at SRn
            obtain ⟨u, hu⟩ : ∃ u, t + k = u := ⟨_, rfl⟩
            obtain ⟨v, hv⟩ : ∃ v, u + n = v := ⟨_, rfl⟩
            rw [hu, hv] at SRn
            have hDl : Aside (D.length = n) := ⟨by rw [← hD.it, List.length_take, List.length_drop, hLe.it.1]; have := HM.it; omega⟩
            have hu1 : (t : Int) + k = u := by omega
            have hv1 : (u : Int) + n = v := by omega
            have y0 : (0 : Int) ≤ (u : Int) := by omega
            have y1 : (u : Int) ≤ (v : Int) := by omega
            have y2 : (v : Int) ≤ (c : Int) := by have := hLe.it.2; have := HM.it; omega
            have y3 : v - u = n := by omega
            have hw1 : IntKind.i64.wrap (u : Int) = (u : Int) := by rw [IntKind.wrap_i64]; have := HM.it; omega
            have hw2 : IntKind.i64.wrap (v : Int) = (v : Int) := by rw [IntKind.wrap_i64]; have := HM.it; omega
            have HU := Aside.mk (And.intro hu hv)
            have hML : Aside (ms.length ≤ 4398046511103) := ⟨by have := SR.it.len; have := SR.it.le; have := hLe.it.1; omega⟩
            have bnd : Aside (([] : List Int).length + D.length ≤ 140737488355328) := ⟨by rw [hDl.it]; have := HM.it; simp; omega⟩
            have OWE : Aside ((W2.alloc (.cells #[] 5)).ownsRow 0 5 1 (.slice (some ⟨W2.heap.size, 0, none⟩) 0 0) ([] : List Int).length (bv [])) := ⟨owns_any (owns_empty W2 5)⟩
            have KE : Aside (Keeps Nowhere W2 (W2.alloc (.cells #[] 5))) := ⟨(Keeps.refl _ _).alloc _⟩
            have OWE2 : Aside ((W2.alloc (.cells #[] 5)).drew.ownsRow 0 5 1 (.slice (some ⟨W2.heap.size, 0, none⟩) 0 0) ([] : List Int).length (bv [])) := ⟨OWE.it⟩
            have KE2 : Aside (Keeps Nowhere W2 (W2.alloc (.cells #[] 5)).drew) := ⟨KE.it.drew⟩
            have SEG := P2.it.seg (a := u) (n := n) (by rw [hLe.it.1]; have := HM.it; omega)
            rw [← hu, hD.it, hu] at SEG
            clear HS hd hp hu hv
            go_upto_region 10 with fail
            go_cut [] (fun wx => ∃ (own9 : Nat → Nat) (q9 : Option Addr) (l9 c9 : Nat), Aside (Sm w most q L c F own9 (.slice q9 l9 c9) (ms ++ [D]) wx))
            case first =>
              by_cases hct : c = u
              · rw [if_pos hct] at SEG
                subst hct
                obtain rfl : v = c := by omega
                obtain rfl : n = 0 := by omega
                rw [Nat.sub_self] at SEG
                have RD : Aside (∀ W, Keeps Nowhere W2 W → Rd W (.slice q 0 0) D) := ⟨fun W k => SEG.later k.bel⟩
                clear SEG
                have a1 := ((P2.it.quiet KE.it).cells).2.1
                have b1 := ((P2.it.quiet KE2.it).cells).2.1
                have b2 := ((P2.it.quiet KE2.it).cells).2.2.1
                have a2 := ((P2.it.quiet KE.it).cells).2.2.1
                go_region_law (first
                  | (refine step_appendO 57 rfl rfl (.tmp 45) (.tmp 56) rfl (.slice (some ⟨W2.heap.size, 0, none⟩) 0 0) (.slice q 0 0) [] D OWE.it (RD.it _ KE.it) bnd.it rfl rfl ?_; intro q8 l8 c8 w8 O8 K8 B8; have Z8 := Aside.mk (Sm.copied P2.it KE.it O8.it K8.it B8.it); obtain ⟨e0, e1, g0, _⟩ := Z8.it.2.1.cells; have e1' : (w8.alloc (.cells #[.slice q8 l8 c8] 29)).cell? ⟨w.heap.size, 1, none⟩ = some (.slice q L v) := ((Z8.it.2.1.quiet ((Keeps.refl _ _).alloc _)).cells).2.1; have g0' : (w8.alloc (.cells #[.slice q8 l8 c8] 29)).cell? ⟨w.heap.size + 2, 0, none⟩ = some (.slice fq fl fc) := ((Z8.it.2.1.quiet ((Keeps.refl _ _).alloc _)).cells).2.2.1)
                  | (refine step_appendO 57 rfl rfl (.tmp 45) (.tmp 56) rfl (.slice (some ⟨W2.heap.size, 0, none⟩) 0 0) (.slice q 0 0) [] D OWE2.it (RD.it _ KE2.it) bnd.it rfl rfl ?_; intro q8 l8 c8 w8 O8 K8 B8; have Z8 := Aside.mk (Sm.copied P2.it KE2.it O8.it K8.it B8.it); obtain ⟨e0, e1, g0, _⟩ := Z8.it.2.1.cells; have e1' : (w8.alloc (.cells #[.slice q8 l8 c8] 29)).cell? ⟨w.heap.size, 1, none⟩ = some (.slice q L v) := ((Z8.it.2.1.quiet ((Keeps.refl _ _).alloc _)).cells).2.1; have g0' : (w8.alloc (.cells #[.slice q8 l8 c8] 29)).cell? ⟨w.heap.size + 2, 0, none⟩ = some (.slice fq fl fc) := ((Z8.it.2.1.quiet ((Keeps.refl _ _).alloc _)).cells).2.2.1)
                  | (refine step_appendL 59 rfl rfl (.tmp 44) (.tmp 58) rfl rfl Z8.it.2.1.row Z8.it.2.2 (by decide) hML.it rfl rfl ?_; intro q9 l9 c9 w9 R9 S9; have Z9 := Aside.mk (Sm.next Z8.it.2.1 R9.it S9.it); have v8 := Z9.it.1.1; have v9 := Z9.it.1.2.1; have z9 := Z9.it.1.2.2))
                all_goals
                  go_wp2
                  go_meet
                  exact ⟨_, q9, l9, c9, ⟨Z9.it.2⟩⟩
              · rw [if_neg hct] at SEG
                have RD : Aside (∀ W, Keeps Nowhere W2 W → Rd W (.slice (q.map (fun x => x.add u)) n (c - u)) D) := ⟨fun W k => SEG.later k.bel⟩
                clear SEG
                have a1 := ((P2.it.quiet KE.it).cells).2.1
                have b1 := ((P2.it.quiet KE2.it).cells).2.1
                have b2 := ((P2.it.quiet KE2.it).cells).2.2.1
                have a2 := ((P2.it.quiet KE.it).cells).2.2.1
                go_region_law (first
                  | (refine step_appendO 57 rfl rfl (.tmp 45) (.tmp 56) rfl (.slice (some ⟨W2.heap.size, 0, none⟩) 0 0) (.slice (q.map (fun x => x.add u)) n (c - u)) [] D OWE.it (RD.it _ KE.it) bnd.it rfl rfl ?_; intro q8 l8 c8 w8 O8 K8 B8; have Z8 := Aside.mk (Sm.copied P2.it KE.it O8.it K8.it B8.it); obtain ⟨e0, e1, g0, _⟩ := Z8.it.2.1.cells; have e1' : (w8.alloc (.cells #[.slice q8 l8 c8] 29)).cell? ⟨w.heap.size, 1, none⟩ = some (.slice q L c) := ((Z8.it.2.1.quiet ((Keeps.refl _ _).alloc _)).cells).2.1; have g0' : (w8.alloc (.cells #[.slice q8 l8 c8] 29)).cell? ⟨w.heap.size + 2, 0, none⟩ = some (.slice fq fl fc) := ((Z8.it.2.1.quiet ((Keeps.refl _ _).alloc _)).cells).2.2.1)
                  | (refine step_appendO 57 rfl rfl (.tmp 45) (.tmp 56) rfl (.slice (some ⟨W2.heap.size, 0, none⟩) 0 0) (.slice (q.map (fun x => x.add u)) n (c - u)) [] D OWE2.it (RD.it _ KE2.it) bnd.it rfl rfl ?_; intro q8 l8 c8 w8 O8 K8 B8; have Z8 := Aside.mk (Sm.copied P2.it KE2.it O8.it K8.it B8.it); obtain ⟨e0, e1, g0, _⟩ := Z8.it.2.1.cells; have e1' : (w8.alloc (.cells #[.slice q8 l8 c8] 29)).cell? ⟨w.heap.size, 1, none⟩ = some (.slice q L c) := ((Z8.it.2.1.quiet ((Keeps.refl _ _).alloc _)).cells).2.1; have g0' : (w8.alloc (.cells #[.slice q8 l8 c8] 29)).cell? ⟨w.heap.size + 2, 0, none⟩ = some (.slice fq fl fc) := ((Z8.it.2.1.quiet ((Keeps.refl _ _).alloc _)).cells).2.2.1)
                  | (refine step_appendL 59 rfl rfl (.tmp 44) (.tmp 58) rfl rfl Z8.it.2.1.row Z8.it.2.2 (by decide) hML.it rfl rfl ?_; intro q9 l9 c9 w9 R9 S9; have Z9 := Aside.mk (Sm.next Z8.it.2.1 R9.it S9.it); have v8 := Z9.it.1.1; have v9 := Z9.it.1.2.1; have z9 := Z9.it.1.2.2))
                all_goals
                  go_wp2
                  go_meet
                  exact ⟨_, q9, l9, c9, ⟨Z9.it.2⟩⟩
            case rest =>
              obtain ⟨own9, q9, l9, c9, P9⟩ := hcut
              have hu2 : (t : Int) + ((k : Int) + n) = v := by omega
              have hw3 : IntKind.i64.wrap ((k : Int) + n) = (k : Int) + n := by rw [IntKind.wrap_i64]; have := HM.it; omega
              clear d0 d1 t0 t1 t2 hu1 hv1
              go_wp2_with fail
              go_roundw
              case rel => exact ⟨v, ms ++ [D], own9, q9, l9, c9, by first | go_num | (congr 1), SRn, P9⟩
              case measure => simp [natT]; have := HP.it; have := HM.it; omega
end
end Go.Proofs.YtnocalkloinbbaaDoor

/-
  package trace: Text
-/
import Derived.Test.YtambdgcogldbgaaDoorTrG
namespace Go.Proofs.YtambdgcogldbgaaDoor
open Go.RowKit Go.Maps

variable {own own' : Nat → Nat} {i p T mb B : Nat} {w w' w1 : World} {L : Hs} {I : Nat → Prop} {k : Int} {b : Nat} {v : Value} {r : Rc} {A : Nat → Addr}
def natOfT : Value → Nat | .int _ q => q.toNat | _ => 0

theorem got_at (ho : TOk T L) {j : Nat} {x : Int × Rc} (h : L[j]? = some x) : got L x.1 = x.2 := by unfold got; rw [tget_at ho h]; rfl
/-- a key of the row that was made -/
theorem RwI.cell {zs : List Int} {q : Option Addr} {n c : Nat} (h : RwI w w' (.slice q n c) zs) {j : Nat} {z : Int} (hj : zs[j]? = some z) : ∃ g, q = some ⟨g, 0, none⟩ ∧ w'.cell? ⟨g, j, none⟩ = some (.int .i64 z) := by
  rcases h.2 with ⟨e, h0⟩ | ⟨g, cap, cur, e, _⟩
  · rw [List.eq_nil_of_length_eq_zero h0] at hj; simp at hj
  · rw [e] at h
    injection e with e1 _ _
    refine ⟨g, e1, ?_⟩
    have := World.ownsRow.cells h rfl j (.int .i64 z) (by rw [List.getElem?_map, hj]; rfl)
    rwa [add_none, Nat.zero_add] at this
set_option maxRecDepth 20000 in
set_option maxHeartbeats 2000000 in
theorem text_at (h : TrO own i w p T L) (hp : PowT w) (hT : T ≤ 70368744177664) (hn : L.length ≤ 1073741824) : Calls Tryd.prog 20 #[ptr p] w fun e w' => e = .returned (.string (str (textT L))) ∧ Aside (Keeps Nowhere w w') := by
  have HO := Aside.mk h
  have HP := Aside.mk hp
  have ok := Aside.mk h.ok
  obtain ⟨b, hb⟩ : ∃ b, w.heap.size = b := ⟨_, rfl⟩
  obtain ⟨w1, hw1⟩ : ∃ w1, w.alloc (.cells #[.pointer none, .slice none 0 0] 80) = w1 := ⟨_, rfl⟩
  have K1 : Aside (Keeps Nowhere w w1) := ⟨by rw [← hw1]; exact (Keeps.refl _ _).alloc _⟩
  have C1 : Aside (Cells w1 b 80 [.pointer none, .slice none 0 0]) := ⟨by rw [← hw1, ← hb]; exact Cells.new w _ _⟩
  have HB := Aside.mk hb
  obtain ⟨n, hln⟩ : ∃ n, L.length = n := ⟨_, rfl⟩
  have HN := Aside.mk hln
  have htk : (tk L).length = n := by rw [ok.it.len_get, hln]
  have HTK := Aside.mk htk
  rw [hln] at hn
  have KY := Aside.mk (keys_at (h.quiet K1.it))
  have hn1 : (n : Int) ≤ 1073741824 := by omega
  clear h hp hln htk
  go_enter Tryd.func20, Tryd.ntmps20
  go_upto_region 2 with fail
  clear hw1 hb
  go_upto_region 3 with fail
  go_wp2_with (first | (go_at_call 15; refine KY.it.mono ?_; rintro e w2 ⟨kv, rfl, R2, K2⟩; obtain ⟨kq, kc, hkv⟩ := owns_val R2.it; rw [HTK.it] at hkv; subst hkv) | fail)
  have B2 : Aside (Bld w2.heap.size w2 b (.slice none 0 0) (textT (L.take 0))) := ⟨⟨none, C1.it.later K2.it (fun x => x), .inl rfl⟩, World.ownsRow_nil _ _ _ _⟩
  obtain ⟨Bs, hBs⟩ : ∃ Bs, w2.heap.size = Bs := ⟨_, rfl⟩
  rw [hBs] at B2
  have HBs := Aside.mk hBs
  have C2 := Aside.mk (C1.it.later K2.it (fun x => x))
  have KW := Aside.mk (K1.it.trans K2.it)
  clear KY hBs
  go_loopw [11] (fun iv wr => ∃ (j : Nat) (vv : Value), iv = .int .i64 j ∧ j ≤ n ∧ Bld Bs wr b vv (textT (L.take j)) ∧ Keeps (fun k => k = b ∨ Bs ≤ k) w2 wr) (fun iv _ => n - natOfT iv)
  case atStart => exact ⟨0, _, rfl, Nat.zero_le _, B2.it, Keeps.refl _ _⟩
  case round =>
    obtain ⟨j, vv, rfl, hj, hbl, hkp⟩ := hrel
    have HBL := Aside.mk hbl
    have HKP := Aside.mk hkp
    have KWr : Aside (Keeps Nowhere w wr) := ⟨KW.it.next hkp (fun k e hlt => by
      rcases e with e | e
      · have := HB.it; omega
      · have := HBs.it; have := KW.it.size; omega)⟩
    have hBw : Aside (Bs ≤ wr.heap.size) := ⟨by rw [← HBs.it]; exact hkp.size⟩
    clear hbl hkp
    rcases Nat.eq_or_lt_of_le hj with rfl | hlt
    · have ST := Aside.mk (string_at (C := w.heap.size) HBL.it (by rw [← HBs.it]; exact KW.it.size) (by rw [HB.it]; exact Nat.le_refl _) hBw.it)
      have e0 : L.take j = L := List.take_of_length_le (by rw [HN.it]; exact Nat.le_refl _)
      rw [e0] at ST
      clear e0
      go_wp2_with (first | (go_at_call 39; refine ST.it.mono ?_; rintro e w3 ⟨rfl, X3⟩) | fail)
      go_ret
      exact ⟨rfl, ⟨Keeps.ofBelow (KWr.it.bel.trans X3.it)⟩⟩
    · obtain ⟨x, hx⟩ : ∃ x, L[j]? = some x := ⟨_, List.getElem?_eq_getElem (by rw [HN.it]; exact hlt)⟩
      have hxk : (tk L)[j]? = some x.1 := by unfold tk; rw [List.getElem?_map, hx]; rfl
      have Rr : RwI w1 wr (.slice kq n kc) (tk L) := owns_later R2.it HKP.it (fun y hy e => by
        rcases e with e | e
        · exact cells_row_ne C2.it R2.it (by decide) (by rw [hy, e])
        · have := owns_lt R2.it y hy; have := HBs.it; omega)
      obtain ⟨g, rfl, hcell⟩ := Rr.cell hxk
      obtain ⟨mb, F, hI, _⟩ := (HO.it.quiet KWr.it).it
      have hkz : Zw x.1 := ok.it.kb _ (List.mem_of_getElem? hx)
      have hok : x.2.Ok T := ok.it.rb _ (List.mem_of_getElem? hx)
      have OF := Aside.mk (of_any hI hkz)
      rw [got_at ok.it hx] at OF
      have HTX := Aside.mk (show textT (L.take (j + 1)) = textT (L.take j) ++ lineT x by rw [List.take_add_one, hx]; exact textT_snoc _ _)
      have hlen : Aside ((textT (L.take j)).length ≤ 1099511627776) := ⟨by
        have h1 : TOk T (L.take j) := ⟨(ok.it.up.sublist ((List.take_sublist j L).map _)), fun y hy => ok.it.kb y (List.mem_of_mem_take hy), fun y hy => ok.it.rb y (List.mem_of_mem_take hy)⟩
        have h2 := text_len h1 hT
        have h3 : (L.take j).length ≤ n := by rw [List.length_take]; omega
        omega⟩
      have HKZ := Aside.mk (And.intro hkz hok)
      have j0 : (j : Int) ≤ 9223372036854775806 := by omega
      clear Rr hI hxk hx hkz hok
      obtain ⟨k, r⟩ := x
      simp only at hcell OF HKZ
      go_upto_region 6 with fail
      go_wp2_with (first
        | (go_at_call 27; refine OF.it.mono ?_; rintro e w4 ⟨rb, rv, rfl, O4⟩
           obtain ⟨ns, gn, hc4, _⟩ := O4.it.r
           have x0 : w4.cell? ⟨rb, 0, none⟩ = some (.int .i64 ((r.wr.length : Nat) : Int)) := (by rw [hc4.cell]; rfl)
           have x1 : w4.cell? ⟨rb, 1, none⟩ = some (.int .i64 ((r.rd : Nat) : Int)) := (by rw [hc4.cell]; rfl)
           have x2 : w4.cell? ⟨rb, 2, none⟩ = some (.bool r.cl) := (by rw [hc4.cell]; rfl)
           have x3 : w4.cell? ⟨rb, 3, none⟩ = some (.bool r.en) := (by rw [hc4.cell]; rfl)
           have B4 := HBL.it.later O4.it.kp (fun x => x) (fun _ _ x => x)
           have LN := Aside.mk (line_at (x := (k, r)) (powT_later HP.it (KWr.it.trans O4.it.kp).bel) B4 (Nat.le_trans hBw.it O4.it.kp.size) HKZ.it.1 HKZ.it.2 hT hlen.it)
           clear hc4 B4)
        | (go_at_call 36; refine LN.it.mono ?_; rintro e w5 ⟨rfl, v5, X5⟩)
        | fail)
      go_roundw
      case rel =>
        refine ⟨j + 1, v5, by go_num, by omega, ?_, (HKP.it.trans (O4.it.kp.mono (fun _ e _ => e.elim))).trans X5.it.2⟩
        rw [HTX.it]
        exact X5.it.1
      case measure => simp [natOfT]; omega
set_option maxRecDepth 20000 in
set_option maxHeartbeats 2000000 in
theorem text_nil (w : World) : Calls Tryd.prog 20 #[.pointer none] w fun e w' => e = .returned (.string (str [])) ∧ Aside (Keeps Nowhere w w') := by
  obtain ⟨b, hb⟩ : ∃ b, w.heap.size = b := ⟨_, rfl⟩
  obtain ⟨w1, hw1⟩ : ∃ w1, w.alloc (.cells #[.pointer none, .slice none 0 0] 80) = w1 := ⟨_, rfl⟩
  have K1 : Aside (Keeps Nowhere w w1) := ⟨by rw [← hw1]; exact (Keeps.refl _ _).alloc _⟩
  have C1 : Aside (Cells w1 b 80 [.pointer none, .slice none 0 0]) := ⟨by rw [← hw1, ← hb]; exact Cells.new w _ _⟩
  have HB := Aside.mk hb
  have KY := Aside.mk (keys_nil w1)
  go_enter Tryd.func20, Tryd.ntmps20
  go_upto_region 2 with fail
  clear hw1 hb
  go_upto_region 3 with fail
  go_wp2_with (first | (go_at_call 15; refine KY.it.mono ?_; rintro e w2 ⟨kv, rfl, R2, K2⟩; obtain ⟨kq, kc, hkv⟩ := owns_val R2.it; simp only [List.length_nil] at hkv; subst hkv) | fail)
  have B2 : Aside (Bld w2.heap.size w2 b (.slice none 0 0) []) := ⟨⟨none, C1.it.later K2.it (fun x => x), .inl rfl⟩, World.ownsRow_nil _ _ _ _⟩
  have KW := Aside.mk (K1.it.trans K2.it)
  refine wp_loop_rounds 1 ?_
  rw [rounds_succ]
  have ST := Aside.mk (string_at (C := w.heap.size) B2.it KW.it.size (by rw [HB.it]; exact Nat.le_refl _) (Nat.le_refl _))
  go_wp2_with (first | (go_at_call 39; refine ST.it.mono ?_; rintro e w3 ⟨rfl, X3⟩) | fail)
  go_ret
  exact ⟨rfl, ⟨Keeps.ofBelow (KW.it.bel.trans X3.it)⟩⟩
end Go.Proofs.YtambdgcogldbgaaDoor

/-
  layer 10's laws: awake.
-/
import Derived.Test.YteghehhifebhcaaDoorOSlA
import Derived.Lib.SlBytesConst
namespace Go.Proofs.YteghehhifebhcaaDoor
open Go.RowKit

section
variable {own own' : Nat → Nat} {i : Nat} {w w' w0 : World} {p : Nat} {A : Nat → Addr} {d : Dm} {I : Nat → Prop}
theorem rd_conv10 {W : World} {x : Value} {ms : List Int} (h : Rd W x ms) : (convert 36 9 x).run Tryd.prog W = .ok (.string (strOf ms)) W := run_bytesStr W 36 9 5 x ms Tryd.underlying36 Tryd.underlying5 Tryd.underlying9 h.holds
theorem rowO_reads {j : Nat} {v : Value} {ns : List Int} (h : RowO own j w 5 v (bv ns)) (hj : ¬ I j) : ReadsOff (fun k => I (own k)) w v (bv ns) := h.1.reads (fun k hk e => hj (h.2 k hk ▸ e))
def aw0 : Dm := Dm.new 5 4 6 3 true
def aw1 : Dm := aw0.wrD [97, 98]
set_option maxRecDepth 100000 in
theorem awake10 (h9 : St9 A w) : Calls Tryd.prog 7 #[] w fun e w' => e = .returned (.bool true) ∧ Aside (Keeps Nowhere w w') := by
  have SM := Aside.mk (fun w => small10 w)
  have H9 := Aside.mk h9
  clear h9
  go_enter Tryd.func7, Tryd.ntmps7
  go_upto_region 2 with (first | (go_at_call 28; refine (SM.it _).mono ?_; rintro e w1 ⟨rfl, K1⟩) | (go_at_call 9; refine (newS_ok (i := 1) (own := fun _ => 0) small 5 true (by decide) (by decide) small_good (H9.it.later K1.it.bel)).mono ?_; rintro e w2 ⟨p, own2, rfl, N2⟩) | fail)
  obtain ⟨w3, hw3⟩ : ∃ w3, w3 = w2.alloc (.cells #[.int .u8 97, .int .u8 98] 5 (2, 3)) := ⟨_, rfl⟩
  have k3 : Keeps Nowhere w2 w3 := by rw [hw3]; exact (Keeps.refl _ _).alloc _
  have s3 : Sn (fun _ => False) own2 w2 (give own2 w2.heap.size 7) w3 := Sn.quiet k3 7
  have G1 : Gs A w1 (fun _ => 0) w1 := Gs.start (H9.it.later K1.it.bel)
  have G3 := Aside.mk ((G1.sn N2.it.2.2 (fun x => x)).sn s3 (fun x => x))
  have S3 : Aside (StmI (give own2 w2.heap.size 7) 1 w3 p aw0) := ⟨N2.it.1.sn s3 (fun _ _ _ x => x)⟩
  have R3 : ReadsOff (fun k => Five 1 (give own2 w2.heap.size 7 k)) w3 (.slice (some ⟨w2.heap.size, 0, none⟩) 2 2) (bv [97, 98]) := by
    rw [hw3]
    refine reads_mark _ w2 5 (bv [97, 98]) (2, 3) ?_
    rw [give_new (Nat.le_refl _)]
    unfold Five
    omega
  have WC := Aside.mk (write_at S3.it G3.it.st.s _ [97, 98] R3 (by decide))
  have s0 : Aside (Sn (fun _ => False) (fun _ => 0) w1 (give own2 w2.heap.size 7) w3) := ⟨N2.it.2.2.trans s3⟩
  clear R3 s3 k3 N2 G1
  rw [show (aw0.wrN [97, 98]) = 2 from rfl, show aw0.wrE = 0 from rfl] at WC
  have cv := Lib.run_convert_bytes_const (P := Tryd.prog) w2 36 5 #[.int .u8 97, .int .u8 98] 2 2 Tryd.underlying36 Tryd.underlying5
  have HW := Aside.mk hw3
  clear hw3
  go_upto_region 5 with (first | (go_at_call 17; rw [← HW.it]; refine WC.it.mono ?_; rintro e w4 ⟨v4, rfl, hv4, Y4⟩) | fail)
  obtain rfl := Coded.zero hv4
  obtain ⟨own4, S4, s4⟩ := Y4.it
  have G4 := Aside.mk (G3.it.sn s4 (by unfold Five; omega))
  have FY := Aside.mk (frame_yes (d := aw1) S4 G4.it (by omega) rfl 7 (by unfold Five; omega) (by decide))
  have s04 := Aside.mk ((s0.it.mono (fun _ x => x.elim)).trans s4)
  clear WC HW cv S3 S4 s4 Y4 hv4
  rw [show aw1.frK = 2 from rfl, show aw1.frL = false from rfl, show aw1.id = 5 from rfl, show aw1.staged.take 2 = [97, 98] from rfl] at FY
  go_upto_region 6 with (first | (go_at_call 21; refine FY.it.mono ?_; rintro e w5 ⟨sq, m5, rfl, hm, Y5⟩; have hm' : m5 = 2 := hm.it; subst hm') | fail)
  obtain ⟨own5, S5, R5, s5⟩ := Y5.it
  have k6 : Keeps Nowhere w5 (w5.alloc (.cells #[.int .u8 0, .int .u8 0, .int .u16 0, .int .u32 5, .int .u32 2, .slice sq 2 2] 65)) := (Keeps.refl _ _).alloc _
  have cs : (convert 36 9 (.slice sq 2 2)).run Tryd.prog (w5.alloc (.cells #[.int .u8 0, .int .u8 0, .int .u16 0, .int .u32 5, .int .u32 2, .slice sq 2 2] 65)) = .ok (.string ⟨#[97, 98]⟩) (w5.alloc (.cells #[.int .u8 0, .int .u8 0, .int .u16 0, .int .u32 5, .int .u32 2, .slice sq 2 2] 65)) :=
    rd_conv10 (ms := [97, 98]) (rowO_rd (R5.quiet k6))
  have K6 : Aside (Keeps Nowhere w (w5.alloc (.cells #[.int .u8 0, .int .u8 0, .int .u16 0, .int .u32 5, .int .u32 2, .slice sq 2 2] 65))) := by
    refine ⟨(K1.it.next (S' := fun k => Five 1 ((fun _ => (0 : Nat)) k)) (s04.it.trans s5).keeps (fun k e _ => ?_)).trans k6⟩
    have : 1 ≤ (0 : Nat) := e.1
    omega
  clear k6 S5 R5 s5 Y5 FY
  go_wp2
  go_ret
  exact ⟨rfl, K6⟩
end
end Go.Proofs.YteghehhifebhcaaDoor

/-
  culvertref27: Length, Encode, size (the document's)
-/
import Derived.Test.YtllioaclnkkhhaaDoorMsP
import Derived.Test.YtllioaclnkkhhaaDoorAppO
import Derived.Test.YtllioaclnkkhhaaDoorRowBO
import Derived.Laws.OwnMore
import Derived.Deep.CutBlock
import Derived.Deep.DeepCutAuto
import Derived.Deep.RegionHeld3
import Derived.Deep.RegionHeldLaw
import Derived.BigQuiet
import Derived.Handy
namespace Go.Proofs.YtllioaclnkkhhaaDoor
open Go.RowKit

variable {w w' W : World} {v x : Value} {ns ms : List Int}
theorem ownB_lit (w : World) (ns : List Int) (n : Nat) (hn : ns.length = n) (hm : n ≤ 1000) : OwnB w.heap.size (w.alloc (.cells (bv ns).toArray 5)) (.slice (some ⟨w.heap.size, 0, none⟩) n n) ns := by
  have := World.ownsRow_lit (base := w.heap.size) (e := 5) (size := 1) w (bv ns).toArray n (Nat.le_refl _) (by unfold maxLen; omega) (by simp [bv_length, hn])
  unfold OwnB
  rw [hn]
  simpa using this
set_option maxHeartbeats 1000000 in
theorem dLength (w : World) {n : Nat} (hn : n < 2097152) : Calls Tryd.prog 30 #[.int .i64 n] w fun e w' => ∃ q c, e = .returned (.slice q (lenB n).length c) ∧ Aside (OwnB w.heap.size w' (.slice q (lenB n).length c) (lenB n)) ∧ Aside (Keeps Nowhere w w') := by
  have hni : (n : Int) < 2097152 := by omega
  by_cases h1 : n < 128
  · have e : lenB n = [(n : Int)] := by unfold lenB; rw [if_pos h1]
    have g1 : (n : Int) < 128 := by omega
    have g2 : (n : Int) % 256 = (n : Int) := by omega
    have R := Aside.mk (ownB_lit w [(n : Int)] 1 rfl (by omega))
    rw [e]
    clear e h1
    go_enter Tryd.func30, Tryd.ntmps30
    go_wp2_with fail
    go_ret
    exact ⟨_, _, rfl, R, ⟨(Keeps.refl _ _).alloc _⟩⟩
  · by_cases h2 : n < 16384
    · have e : lenB n = [(n : Int) % 128 + 128, (n : Int) / 128] := by unfold lenB; rw [if_neg h1, if_pos h2]; simp
      have g1 : ¬ (n : Int) < 128 := by omega
      have g2 : (n : Int) < 16384 := by omega
      have R := Aside.mk (ownB_lit w [(n : Int) % 128 + 128, (n : Int) / 128] 2 rfl (by omega))
      rw [e]
      clear e h1 h2
      go_enter Tryd.func30, Tryd.ntmps30
      go_wp2_with fail
      go_ret
      exact ⟨_, _, rfl, R, ⟨(Keeps.refl _ _).alloc _⟩⟩
    · have e : lenB n = [(n : Int) % 128 + 128, (n : Int) / 128 % 128 + 128, (n : Int) / 128 / 128] := by unfold lenB; rw [if_neg h1, if_neg h2]; simp; omega
      have g1 : ¬ (n : Int) < 128 := by omega
      have g2 : ¬ (n : Int) < 16384 := by omega
      have R := Aside.mk (ownB_lit w [(n : Int) % 128 + 128, (n : Int) / 128 % 128 + 128, (n : Int) / 128 / 128] 3 rfl (by omega))
      rw [e]
      clear e h1 h2
      go_enter Tryd.func30, Tryd.ntmps30
      go_wp2_with fail
      go_ret
      exact ⟨_, _, rfl, R, ⟨(Keeps.refl _ _).alloc _⟩⟩
/-- a row of bytes that is new since w -/
structure Ny (w W : World) (v : Value) (ns : List Int) : Prop where
  row : OwnB w.heap.size W v ns
  k : Keeps Nowhere w W
/-- append(v, x...) of a row that is new since w -/
theorem appRun {m : Nat} (h : OwnB w.heap.size W v ns) (hk : Keeps Nowhere w W) (hx : Rd W x ms) (hb : ns.length + ms.length ≤ 140737488355328) (hm : (ns ++ ms).length = m) : ∃ (a : Option Addr) (c : Nat) (w' : World), (∀ ty, (Builtin.append_ #[28, 28] ty #[v, x]).run Tryd.prog W = .ok (.slice a m c) w') ∧ Aside (Ny w w' (.slice a m c) (ns ++ ms)) := by
  obtain ⟨i, hi, hz0, hz1, hz2⟩ := info_parts u8info
  have hown' : W.ownsRow w.heap.size 5 1 v (bv ns).length (bv ns) := by rw [bv_length]; exact h
  obtain ⟨v', w', run, o', g'⟩ := run_appendK (P := Tryd.prog) W w.heap.size 28 5 i _ 1 Tryd.underlying28 hi hz0 hz1 hz2 rfl v (bv ns) hown' x (bv ms) hx.1 hx.2 (bv_one ms) (by rw [bv_length, bv_length]; omega) (by rw [bv_length, bv_length]; unfold maxLen; omega) hk.size
  have o2 : OwnB w.heap.size w' v' (ns ++ ms) := by
    rw [← bv_append, bv_length] at o'
    exact o'
  obtain ⟨a, c, e⟩ := OwnB.shape o2
  rw [hm] at e
  subst e
  exact ⟨a, c, w', run, ⟨o2, hk.next (grown_keeps g') (fun b hb hlt => by have := owns_base h b hb; omega)⟩⟩
/-- append([]byte(nil-less), x...) -/
theorem copyRun {N : Nat} (hx : Rd W x ns) (hN : ns.length = N) (hb : N ≤ 140737488355328) : ∃ (a : Option Addr) (c : Nat) (w' : World), (∀ ty, (Builtin.append_ #[28, 28] ty #[.slice (some ⟨W.heap.size, 0, none⟩) 0 0, x]).run Tryd.prog (W.alloc (.cells #[] 5)) = .ok (.slice a N c) w') ∧ Aside (Ny W w' (.slice a N c) ns) := by
  have K : Keeps Nowhere W (W.alloc (.cells #[] 5)) := (Keeps.refl _ _).alloc _
  exact appRun (ns := []) (owns_empty W 5) K (hx.later K.bel) (by simp; omega) (by simpa using hN)
attribute [-go_sem] Builtin.append_
/-- which most there may be -/
def MostOk (most : Int) : Prop := 0 ≤ most ∧ most ≤ 1048576
/-- what Encode answers -/
def encE (m : List Int) (most : Int) : Int := if most < 0 ∨ 1048576 < most then 2 else if most < (m.length : Int) then 15 else 0
def encV (m : List Int) (most : Int) : List Int := if encE m most = 0 then encM m else []
set_option maxHeartbeats 1000000 in
theorem dEncode {most : Int} (hr : Rd w v ms) (hm : ms.length ≤ 140737488355327) (hz : -9223372036854775808 ≤ most ∧ most ≤ 9223372036854775807) : Calls Tryd.prog 14 #[v, .int .i64 most] w fun e w' => ∃ q l c, e = .returned (.tuple #[.slice q l c, .int .i64 (encE ms most)]) ∧ Aside (OwnB w.heap.size w' (.slice q l c) (encV ms most)) ∧ Aside (Keeps Nowhere w w') := by
  obtain ⟨a, c, rfl⟩ := hr.shape
  obtain ⟨n, hn⟩ : ∃ n, ms.length = n := ⟨_, rfl⟩
  have HR := Aside.mk hr
  rw [hn] at hm HR ⊢
  have HN := Aside.mk hn
  by_cases h1 : most < 0 ∨ 1048576 < most
  · have e1 : encE ms most = 2 := by unfold encE; rw [if_pos h1]
    have e2 : encV ms most = [] := by unfold encV; rw [if_neg (by rw [e1]; decide)]
    rw [e1, e2]
    clear hr hn e1 e2
    by_cases h2 : most < 0
    · have g1 : decide (most < 0) = true := by simp [h2]
      clear h1
      go_enter Tryd.func14, Tryd.ntmps14
      go_wp2_with fail
      go_returns
      exact ⟨_, _, _, rfl, ⟨⟨rfl, .inl ⟨rfl, rfl⟩⟩⟩, ⟨Keeps.refl _ _⟩⟩
    · have h3 : 1048576 < most := by omega
      have g1 : ¬ most < 0 := h2
      clear h1
      go_enter Tryd.func14, Tryd.ntmps14
      go_wp2_with fail
      go_returns
      exact ⟨_, _, _, rfl, ⟨⟨rfl, .inl ⟨rfl, rfl⟩⟩⟩, ⟨Keeps.refl _ _⟩⟩
  · have h2 : ¬ most < 0 := by omega
    have h3 : ¬ 1048576 < most := by omega
    by_cases h4 : most < (n : Int)
    · have e1 : encE ms most = 15 := by unfold encE; rw [if_neg h1, hn, if_pos h4]
      have e2 : encV ms most = [] := by unfold encV; rw [if_neg (by rw [e1]; decide)]
      rw [e1, e2]
      clear hr hn e1 e2 h1
      go_enter Tryd.func14, Tryd.ntmps14
      go_wp2_with fail
      go_returns
      exact ⟨_, _, _, rfl, ⟨⟨rfl, .inl ⟨rfl, rfl⟩⟩⟩, ⟨Keeps.refl _ _⟩⟩
    · have e1 : encE ms most = 0 := by unfold encE; rw [if_neg h1, hn, if_neg h4]
      have e2 : encV ms most = lenB n ++ ms := by unfold encV; rw [if_pos e1, encM, hn]
      rw [e1, e2]
      have hn20 : n ≤ 1048576 := by omega
      have LN := Aside.mk (dLength w (n := n) (by omega))
      have g0 : (n : Int) ≤ 1048576 := by omega
      clear hr hn e1 e2 h1
      go_enter Tryd.func14, Tryd.ntmps14
      go_upto_region 6 with (first
        | (go_at_call 30; refine LN.it.mono ?_; clear LN; rintro e w1 ⟨q1, c1, rfl, R1, K1⟩)
        | fail)
      obtain ⟨a2, c2, w2, run2, N2⟩ := appRun (m := (lenB n).length + n) R1.it K1.it (HR.it.later K1.it.bel) (by have := (lenB_len n).2; have := HN.it; omega) (by rw [List.length_append, HN.it])
      clear R1 K1
      go_wp2_with fail
      go_returns
      exact ⟨_, _, _, rfl, ⟨N2.it.row⟩, ⟨N2.it.k⟩⟩
end Go.Proofs.YtllioaclnkkhhaaDoor

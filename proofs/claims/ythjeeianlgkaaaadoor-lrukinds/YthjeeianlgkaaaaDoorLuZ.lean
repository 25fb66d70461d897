/-
  Itoa; told: three lists of keys, one for one
-/
import Derived.Test.YthjeeianlgkaaaaDoorLuN
import Derived.Test.YthjeeianlgkaaaaDoorLuHltt
import Derived.Test.YthjeeianlgkaaaaDoorLuHlpp
import Derived.Test.YthjeeianlgkaaaaDoorKeQ
import Derived.Test.YthjeeianlgkaaaaDoorShelf
namespace Go.Proofs.YthjeeianlgkaaaaDoor
open Go.RowKit Go.Sort

theorem below_growK (w : World) (k : Nat) (os : Array Obj) : Below w.heap.size w (grow (w.drewN k) os) := by
  refine ⟨rfl, rfl, rfl, ?_, fun b hb => ?_⟩
  · simp [grow]
  · show (w.heap ++ os)[b]? = w.heap[b]?
    exact Array.getElem?_append_left hb
def PowT (w : World) : Prop := Lib.TabIs Tryd.prog w "internal/strconv.uint64pow10" .u64 Lib.pow10Tab
theorem powT_later {w w' : World} (h : PowT w) (hb : Below w.heap.size w w') : PowT w' := by
  have hg : Tryd.prog.globalNamed "internal/strconv.uint64pow10" = some 42 := by kernel_rfl
  unfold PowT Lib.TabIs at h ⊢
  rw [← h]
  simp only [World.var?, hg, Option.bind_some]
  rw [hb.block 42 ?_]
  have hc := World.var?_cell hg h 0
  have : w.cell? ⟨42, 0, none⟩ = some (.int .u64 1) := by rw [hc]; rfl
  exact World.block_lt_of_cell? w _ this
theorem itoaU {w : World} (hp : PowT w) {n : Int} (hn : I6 n) : Calls Tryd.prog 20 #[.int .i64 n] w fun e w' => e = .returned (.string (Lultt.tx n)) ∧ Aside (Keeps Nowhere w w') := by
  refine (Tryd.strconv_Itoa n hn.1 hn.2 w hp).mono ?_
  rintro e w' ⟨rfl, k, os, rfl⟩
  refine ⟨?_, ⟨Keeps.ofBelow (below_growK w k os)⟩⟩
  unfold Lultt.tx
  rw [Lultt.tl_in hn]
theorem fm_at {f : Int → List Value} {c : Nat} (hf : ∀ k, (f k).length = c) (ks : List Int) : ∀ (j : Nat) (k : Int), ks[j]? = some k → ∀ (i : Nat) (u : Value), (f k)[i]? = some u → (ks.flatMap f)[j * c + i]? = some u := by
  induction ks with
  | nil => intro j k h; simp at h
  | cons y ks ih =>
    intro j k h i u hu
    have hi : i < c := by rw [← hf k]; exact (List.getElem?_eq_some_iff.1 hu).1
    rw [List.flatMap_cons]
    cases j with
    | zero =>
      simp only [List.getElem?_cons_zero, Option.some.injEq] at h
      subst h
      rw [List.getElem?_append_left (by rw [hf]; omega)]
      simpa using hu
    | succ j =>
      simp only [List.getElem?_cons_succ] at h
      rw [List.getElem?_append_right (by rw [hf, Nat.succ_mul]; omega), hf]
      have : (j + 1) * c + i - c = j * c + i := by rw [Nat.succ_mul]; omega
      rw [this]
      exact ih j k h i u hu
theorem rkN (L : List Rx) : Lulnn.rk L = (keyL L).flatMap Lulnn.kcs := by unfold Lulnn.rk keyL; rw [List.flatMap_map]
theorem rkT (L : List Rx) : Lultt.rk L = (keyL L).flatMap Lultt.kcs := by unfold Lultt.rk keyL; rw [List.flatMap_map]
theorem rkP (L : List Rx) : Lulpp.rk L = (keyL L).flatMap Lulpp.kcs := by unfold Lulpp.rk keyL; rw [List.flatMap_map]
/-- three lists of keys that can be read, one for one -/
structure To (w : World) (vx vy vz : Value) (ks : List Int) : Prop where
  x : ReadsK 1 w vx ks.length (ks.flatMap Lulnn.kcs)
  y : ReadsK 1 w vy ks.length (ks.flatMap Lultt.kcs)
  z : ReadsK 2 w vz ks.length (ks.flatMap Lulpp.kcs)
  b : ∀ k ∈ ks, I6 k
set_option maxHeartbeats 2000000 in
set_option maxRecDepth 20000 in
theorem told_ {w : World} {vx vy vz : Value} {ks : List Int} (hp : PowT w) (h : To w vx vy vz ks) : Calls Tryd.prog 24 #[vx, vy, vz] w fun e w' => e = .returned (.bool true) ∧ Aside (Keeps Nowhere w w') := by
  obtain ⟨_, ax, cx, rfl, x1, x2, _, x3⟩ := h.x
  obtain ⟨_, ay, cy, rfl, y1, y2, _, y3⟩ := h.y
  obtain ⟨_, az, cz, rfl, z1, z2, _, z3⟩ := h.z
  have HX := Aside.mk (And.intro x3 (And.intro y3 z3))
  have HB := Aside.mk h.b
  have HP := Aside.mk hp
  have mx : maxLen ≤ 9223372036854775807 := by decide
  obtain ⟨n, hn⟩ : ∃ n, ks.length = n := ⟨_, rfl⟩
  have HN := Aside.mk hn
  rw [hn] at x1 y1 z1 ⊢
  clear x3 y3 z3 h hp hn
  have q0 : ((n : Int) == n) = true := by simp
  go_enter Tryd.func24, Tryd.ntmps24
  go_upto_region 4 with fail
  go_loopw [7] (fun iv wr => ∃ j : Nat, iv = .int .i64 j ∧ j ≤ n ∧ Aside (Keeps Nowhere w wr)) (fun iv _ => n - natI iv)
  case atStart => exact ⟨0, rfl, Nat.zero_le _, ⟨Keeps.refl _ _⟩⟩
  case round =>
    obtain ⟨j, rfl, hj, K⟩ := hrel
    rcases Nat.eq_or_lt_of_le hj with rfl | hlt
    · go_wp2_with fail
      go_ret
      exact ⟨rfl, K⟩
    · have hlt' : (j : Int) < (n : Int) := by omega
      obtain ⟨k, hk⟩ : ∃ k, ks[j]? = some k := ⟨_, List.getElem?_eq_getElem (by rw [HN.it]; exact hlt)⟩
      have hkb := HB.it k (List.mem_of_getElem? hk)
      obtain ⟨gx, ox, rfl, c0⟩ := HX.it.1 _ _ (fm_at (f := Lulnn.kcs) (c := 1) (fun _ => rfl) ks j k hk 0 _ rfl)
      obtain ⟨gy, oy, rfl, c1⟩ := HX.it.2.1 _ _ (fm_at (f := Lultt.kcs) (c := 1) (fun _ => rfl) ks j k hk 0 _ rfl)
      obtain ⟨gz, oz, rfl, c2⟩ := HX.it.2.2 _ _ (fm_at (f := Lulpp.kcs) (c := 2) (fun _ => rfl) ks j k hk 0 _ rfl)
      obtain ⟨_, _, e, c3⟩ := HX.it.2.2 _ _ (fm_at (f := Lulpp.kcs) (c := 2) (fun _ => rfl) ks j k hk 1 _ rfl)
      cases e
      rw [Lulpp.p0_in hkb] at c2
      rw [Lulpp.p1_in hkb] at c3
      rw [Nat.mul_one, Nat.add_zero] at c0 c1
      rw [Nat.add_zero] at c2
      rw [← Nat.add_assoc] at c3
      have d0 := fun n : KeW wr => KeW.cell (KeW.cell c0 ⟨wr, K.it⟩) n
      have d1 := fun n : KeW wr => KeW.cell (KeW.cell c1 ⟨wr, K.it⟩) n
      have d2 := fun n : KeW wr => KeW.cell (KeW.cell c2 ⟨wr, K.it⟩) n
      have d3 := fun n : KeW wr => KeW.cell (KeW.cell c3 ⟨wr, K.it⟩) n
      have IT := Aside.mk (KeW.call (w1 := wr) (fun W kk => itoaU (powT_later HP.it (K.it.trans kk).bel) hkb))
      have hq := fun W : World => Lulpp.key_neq k 7 k 7 W
      clear c0 c1 c2 c3 hk hkb
      haveI : Nonempty (KeW wr) := ⟨⟨wr, Keeps.refl _ _⟩⟩
      go_upto_region 6 with fail
      refine wp_region_quietF (KeW.W (w1 := wr)) (by kernel_rfl) (by kernel_rfl) ⟨wr.drew, (Keeps.refl _ _).drew⟩ rfl ?_
      repeat (go_big_quiet_step (first | (go_at_call 20; exact IT.it _)))
      refine wpQuiet_nil ?_
      rintro _ ⟨m, rfl⟩
      have KM := Aside.mk (K.it.trans m.ok)
      generalize m.W = w11 at *
      clear d0 d1 d2 d3 IT
      go_wp2
      go_roundw
      case rel => exact ⟨j + 1, by go_num, hlt, KM⟩
      case measure => simp [natI]; omega
end Go.Proofs.YthjeeianlgkaaaaDoor

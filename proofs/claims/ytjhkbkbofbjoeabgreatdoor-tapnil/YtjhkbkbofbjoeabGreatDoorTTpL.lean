/-
  package tap: join, Line
-/
import Derived.Test.YtjhkbkbofbjoeabGreatDoorTTpT
import Derived.Test.YtjhkbkbofbjoeabGreatDoorTFrameH
import Derived.Test.YtjhkbkbofbjoeabGreatDoorTOwnS
namespace Go.Proofs.YtjhkbkbofbjoeabGreatDoor
open Go.RowKit Go.Maps

theorem join_at {B : Nat} {w : World} {x : Value} {ys : List ByteArray} {r : List UInt8} (h : OwnS B w x ys) (hp : 0 < ys.length) (hr : Lib.join (ys.map (·.data.toList)) [32] = r) (hjl : r.length ≤ 140737488355328) (hl : ys.length ≤ 100) :
    Calls Tryz.prog 19 #[x] w fun e w' => e = .returned (.string (str r)) ∧ Aside (Below w.heap.size w w') := by
  subst hr
  rcases id h.2 with ⟨_, h0⟩ | ⟨g, c, cur, hx, hb, hg, hn, _⟩
  · omega
  · subst hx
    have hc : ∀ j u, (strv ys)[j]? = some u → w.cell? ⟨g, 0 + j, none⟩ = some u := fun j u hj => by
      have := h.cells (g := g) rfl j u hj
      rwa [add_none] at this
    have J := Aside.mk (Tryz.strings_Join g 0 c ys (str [32]) w (fun j x hj => hc j (.string x) (by simp [strv, hj])) (Array.getElem?_eq_some_iff.1 hg).1 (by omega) hn hjl)
    clear h hc
    go_enter Tryz.func19, Tryz.ntmps19
    go_wp2_with (first | (go_at_call 42; refine J.it.mono ?_; rintro e w1 ⟨rfl, b1⟩) | fail)
    go_ret
    exact ⟨rfl, ⟨b1⟩⟩
/-- a frame's line -/
def lineB (v t f s l : Int) (ns : List Int) : List UInt8 := txB v t f s l ++ (if t = 0 then 32 :: tb ns else [])
theorem tb_len (ns : List Int) : (tb ns).length ≤ 3 * ns.length + 1 := by
  unfold tb
  rw [Tp.un_len]
  have := Tp.told_len (nat ns)
  unfold nat at this ⊢
  rwa [List.length_map] at this
section
variable {A : Nat → Addr} {w : World} {v t f s l : Int} {d : Value} {ns : List Int}
/-- the numbers of a header fit -/
structure Fits (v t f s l : Int) : Prop where
  v0 : 0 ≤ v
  v1 : v ≤ 255
  t0 : 0 ≤ t
  t1 : t ≤ 255
  f0 : 0 ≤ f
  f1 : f ≤ 65535
  s0 : 0 ≤ s
  s1 : s ≤ 4294967295
  l0 : 0 ≤ l
  l1 : l ≤ 4294967295
theorem line_len (H : Fits v t f s l) : (lineB v t f s l ns).length ≤ 3 * ns.length + 1002 := by
  unfold lineB
  have h1 := txB_len v t f s l H.v1 H.t0 H.t1 H.f1 H.s1 H.l1
  have h2 := tb_len ns
  split <;> simp <;> omega
end
set_option maxRecDepth 20000 in
set_option maxHeartbeats 4000000 in
theorem line_at {A : Nat → Addr} {v t f s l : Int} {d : Value} {ns : List Int} (w : World) (hs : SentO A w) (hW : Words w) (H : Fits v t f s l) (hr : Rd w d ns) (hb : AreBytes ns) (hn : ns.length ≤ 35184372088832) :
    Calls Tryz.prog 6 #[frm v t f s l d] w fun e w' => ((ns.length : Int) = szH t l ∧ e = .returned (.tuple #[.string (str (lineB v t f s l ns)), .nilIface]) ∨ (ns.length : Int) ≠ szH t l ∧ ∃ a, e = .returned (.tuple #[.string (str []), .iface 209 (.pointer (some a))])) ∧ Aside (Below w.heap.size w w') := by
  have G0 : Aside (FAt A w w.heap.size v t f s l d ns (w.alloc (fbox v t f s l d)).drew) := ⟨⟨hs.later (alloc_below _ _).drew, (alloc_below _ _).drew, (FB.new w v t f s l d), hr.later (alloc_below _ _).drew⟩⟩
  obtain ⟨a, c, hd⟩ := hr.shape
  subst hd
  have HN := Aside.mk hn
  have HB := Aside.mk hb
  have HW := Aside.mk hW
  have HF := Aside.mk H
  have Z := Aside.mk (size_f (A := A) (w := w) (p := w.heap.size) (v := v) (t := t) (f := f) (s := s) (d := .slice a ns.length c) (ns := ns) H.l0 H.l1)
  clear hs hr hn hb hW H
  by_cases hz : (ns.length : Int) = szH t l
  · have hz' : ((ns.length : Int) != szH t l) = false := by simp [hz]
    have HZ := Aside.mk hz
    clear hz
    go_enter Tryz.func6, Tryz.ntmps6
    go_wp2_with fail
    go_region_held_law (fun w' => w'.cell? ⟨w.heap.size, 0, none⟩ = some (.int .u8 v) ∧ w'.cell? ⟨w.heap.size, 1, none⟩ = some (.int .u8 t) ∧ w'.cell? ⟨w.heap.size, 2, none⟩ = some (.int .u16 f) ∧ w'.cell? ⟨w.heap.size, 3, none⟩ = some (.int .u32 s) ∧ w'.cell? ⟨w.heap.size, 4, none⟩ = some (.int .u32 l) ∧ w'.cell? ⟨w.heap.size, 5, none⟩ = some (.slice a ns.length c))
      (exact FAt.cells (by assumption)) ((go_at_call 16; refine (Z.it _ (by assumption)).mono ?_; rintro e w2 ⟨rfl, G2⟩))
    obtain ⟨g0, g1, g2, g3, g4, g5⟩ := FAt.cells G2
    have TX := Aside.mk (text_any v t f s l HF.it.v0 HF.it.v1 HF.it.t0 HF.it.t1 HF.it.f0 HF.it.f1 HF.it.s0 HF.it.s1 HF.it.l0 HF.it.l1 w2 (HW.it.later G2.it.bB))
    obtain ⟨T, hT⟩ : ∃ T, txB v t f s l = T := ⟨_, rfl⟩
    have HT := Aside.mk hT
    have HTL : Aside (T.length ≤ 1000) := ⟨by rw [← hT]; exact txB_len v t f s l HF.it.v1 HF.it.t0 HF.it.t1 HF.it.f1 HF.it.s1 HF.it.l1⟩
    rw [hT] at TX
    clear hT G0 Z
    by_cases h0 : t = 0
    · have h0' : (t == 0) = true := by simp [h0]
      have EL : Aside (lineB v t f s l ns = T ++ 32 :: tb ns) := ⟨by unfold lineB; rw [if_pos h0, HT.it]⟩
      clear h0
      go_upto_region 4 with (first | (go_at_call 17; refine TX.it.mono ?_; rintro e w3 ⟨rfl, b3⟩; have B3 := Aside.mk b3; clear b3; have G3 := Aside.mk (G2.it.later B3.it); obtain ⟨g0, g1, g2, g3, g4, g5⟩ := FAt.cells G3) | fail)
      have O3 : Aside (OwnS w3.heap.size (w3.alloc (.cells #[.string (str T)] 9)) (.slice (some ⟨w3.heap.size, 0, none⟩) 1 1) [str T]) := ⟨own_newS w3 [str T] 1 rfl (Nat.le_refl _) (by decide)⟩
      have G4 := Aside.mk (G3.it.later (alloc_below w3 (.cells #[.string (str T)] 9)))
      obtain ⟨k0, k1, k2, k3, k4, k5⟩ := FAt.cells G4
      have BB : Aside (Below w.heap.size w (w3.alloc (.cells #[.string (str T)] 9))) := ⟨G4.it.bB⟩
      have S4 : Aside (w3.heap.size ≤ (w3.alloc (.cells #[.string (str T)] 9)).heap.size) := ⟨(alloc_below _ _).size⟩
      have S3 : Aside (w.heap.size ≤ w3.heap.size) := ⟨G3.it.bB.size⟩
      generalize w3.alloc (.cells #[.string (str T)] 9) = w4 at O3 G4 k0 k1 k2 k3 k4 k5 BB S4 ⊢
      have TD := Aside.mk (told_at w4 G4.it.rR HB.it HN.it)
      obtain ⟨D, hD⟩ : ∃ D, tb ns = D := ⟨_, rfl⟩
      have HD : Aside (D.length ≤ 105553116266500) := ⟨by have := tb_len ns; rw [hD] at this; have := HN.it; omega⟩
      rw [hD] at TD EL
      clear hD g0 g1 g2 g3 g4 g5
      go_upto_region 6 with (first
        | (go_at_call 18; refine TD.it.mono ?_; rintro e w5 ⟨rfl, B5⟩)
        | (at_builtin; refine wpList_appendS rfl (.tmp 21) (.tmp 25) rfl w3.heap.size _ _ [str T] [str D] (OwnS.later (OwnS.later O3.it B5.it) (alloc_below _ _)) (rd_newS w5 [str D] 1 rfl) (by simp) (Nat.le_trans (Nat.le_trans S4.it B5.it.size) (alloc_below _ _).size) rfl rfl ?_
           intro x6 w6 o6 k6
           have B6 : Aside (Below w.heap.size w w6) := ⟨((BB.it.trans (B5.it.mono BB.it.size)).trans ((alloc_below _ _).mono (Nat.le_trans BB.it.size B5.it.size))).trans (k6.it.mono S3.it)⟩
           obtain ⟨p6, c6, hx6⟩ := o6.it.shape
           subst hx6)
        | fail)
      have JN := Aside.mk (join_at (r := T ++ 32 :: D) o6.it (by simp) (by simp [Lib.join_cons, Lib.joinTail]) (by have := HTL.it; have := HD.it; simp; omega) (by simp))
      go_wp2_with (first | (go_at_call 19; refine JN.it.mono ?_; rintro e w7 ⟨rfl, B7⟩) | fail)
      go_ret2
      exact ⟨.inl ⟨HZ.it, by rw [EL.it]; rfl⟩, ⟨B6.it.trans (B7.it.mono B6.it.size)⟩⟩
    · have h0' : (t == 0) = false := by simp [h0]
      have EL : Aside (lineB v t f s l ns = T) := ⟨by unfold lineB; rw [if_neg h0, HT.it, List.append_nil]⟩
      clear h0
      go_upto_region 4 with (first | (go_at_call 17; refine TX.it.mono ?_; rintro e w3 ⟨rfl, b3⟩; have B3 := Aside.mk b3; clear b3; have G3 := Aside.mk (G2.it.later B3.it); obtain ⟨g0, g1, g2, g3, g4, g5⟩ := FAt.cells G3) | fail)
      have O3 : Aside (OwnS w3.heap.size (w3.alloc (.cells #[.string (str T)] 9)) (.slice (some ⟨w3.heap.size, 0, none⟩) 1 1) [str T]) := ⟨own_newS w3 [str T] 1 rfl (Nat.le_refl _) (by decide)⟩
      have G4 := Aside.mk (G3.it.later (alloc_below w3 (.cells #[.string (str T)] 9)))
      obtain ⟨k0, k1, k2, k3, k4, k5⟩ := FAt.cells G4
      have BB : Aside (Below w.heap.size w (w3.alloc (.cells #[.string (str T)] 9))) := ⟨G4.it.bB⟩
      generalize w3.alloc (.cells #[.string (str T)] 9) = w4 at O3 G4 k0 k1 k2 k3 k4 k5 BB ⊢
      have JN := Aside.mk (join_at (r := T) O3.it (by simp) (by simp [Lib.join_cons, Lib.joinTail]) (by have := HTL.it; omega) (by simp))
      clear g0 g1 g2 g3 g4 g5
      go_wp2_with (first | (go_at_call 19; refine JN.it.mono ?_; rintro e w7 ⟨rfl, B7⟩) | fail)
      go_ret2
      exact ⟨.inl ⟨HZ.it, by rw [EL.it]; rfl⟩, ⟨BB.it.trans (B7.it.mono BB.it.size)⟩⟩
  · have hz' : ((ns.length : Int) != szH t l) = true := by simp [hz]
    have HZ := Aside.mk hz
    clear hz
    go_enter Tryz.func6, Tryz.ntmps6
    go_wp2_with fail
    go_region_held_law (fun w' => w'.cell? ⟨w.heap.size, 0, none⟩ = some (.int .u8 v) ∧ w'.cell? ⟨w.heap.size, 1, none⟩ = some (.int .u8 t) ∧ w'.cell? ⟨w.heap.size, 2, none⟩ = some (.int .u16 f) ∧ w'.cell? ⟨w.heap.size, 3, none⟩ = some (.int .u32 s) ∧ w'.cell? ⟨w.heap.size, 4, none⟩ = some (.int .u32 l) ∧ w'.cell? ⟨w.heap.size, 5, none⟩ = some (.slice a ns.length c))
      (exact FAt.cells (by assumption)) ((go_at_call 16; refine (Z.it _ (by assumption)).mono ?_; rintro e w2 ⟨rfl, G2⟩))
    have cE := G2.it.sS.cell 14 0 rfl
    go_wp2_with fail
    go_quiet (fail)
    go_wp2_with fail
    go_ret2
    exact ⟨.inr ⟨HZ.it, _, rfl⟩, ⟨G2.it.bB.trans ⟨rfl, rfl, rfl, Nat.le_refl _, fun _ _ => rfl⟩⟩⟩
end Go.Proofs.YtjhkbkbofbjoeabGreatDoor

import Derived.Test.YtbbldkldgjmmgaaGreatDoorTTpT
import Derived.Test.YtbbldkldgjmmgaaGreatDoorTFrameH
import Derived.Test.YtbbldkldgjmmgaaGreatDoorTOwnS
import Derived.Test.YtbbldkldgjmmgaaGreatDoorTTpG
import Derived.Shelf.Strings.SlTrimAscii
/-
  package tap: join, Line
-/
namespace Go.Proofs.YtbbldkldgjmmgaaGreatDoor
open Go.RowKit Go.Maps

theorem join_at {B : Nat} {w : World} {x : Value} {ys : List ByteArray} {r : List UInt8} (h : OwnS B w x ys) (hp : 0 < ys.length) (hr : Lib.join (ys.map (·.data.toList)) [32] = r) (hjl : r.length ≤ 140737488355328) (hl : ys.length ≤ 100) :
    Calls Tryz.prog 17 #[x] w fun e w' => e = .returned (.string (str r)) ∧ Aside (Below w.heap.size w w') := by
  subst hr
  rcases id h.2 with ⟨_, h0⟩ | ⟨g, c, cur, hx, hb, hg, hn, _⟩
  · omega
  · subst hx
    have hc : ∀ j u, (strv ys)[j]? = some u → w.cell? ⟨g, 0 + j, none⟩ = some u := fun j u hj => by
      have := h.cells (g := g) rfl j u hj
      rwa [add_none] at this
    have J := Aside.mk (Tryz.strings_Join g 0 c ys (str [32]) w (fun j x hj => hc j (.string x) (by simp [strv, hj])) (Array.getElem?_eq_some_iff.1 hg).1 (by omega) hn hjl)
    clear h hc
    go_enter Tryz.func17, Tryz.ntmps17
    go_wp2_with (first | (go_at_call 40; refine J.it.mono ?_; rintro e w1 ⟨rfl, b1⟩) | fail)
    go_ret
    exact ⟨rfl, ⟨b1⟩⟩
/-- a frame's line -/
def lineB (v t f s l : Int) (ns : List Int) : List UInt8 := txB v t f s l ++ (if t = 0 then 32 :: tb ns else [])
theorem tb_len (ns : List Int) : (tb ns).length ≤ 3 * ns.length + 1 := by
  unfold tb
  rw [Tp.un_len]
  have := Tp.told_len (nat ns)
  unfold nat at this ⊢
  rwa [List.length_map] at this
section
variable {A : Nat → Addr} {w : World} {v t f s l : Int} {d : Value} {ns : List Int}
/-- the numbers of a header fit -/
structure Fits (v t f s l : Int) : Prop where
  v0 : 0 ≤ v
  v1 : v ≤ 255
  t0 : 0 ≤ t
  t1 : t ≤ 255
  f0 : 0 ≤ f
  f1 : f ≤ 65535
  s0 : 0 ≤ s
  s1 : s ≤ 4294967295
  l0 : 0 ≤ l
  l1 : l ≤ 4294967295
theorem line_len (H : Fits v t f s l) : (lineB v t f s l ns).length ≤ 3 * ns.length + 1002 := by
  unfold lineB
  have h1 := txB_len v t f s l H.v1 H.t0 H.t1 H.f1 H.s1 H.l1
  have h2 := tb_len ns
  split <;> simp <;> omega
end
set_option maxRecDepth 20000 in
set_option maxHeartbeats 4000000 in
theorem line_at {A : Nat → Addr} {v t f s l : Int} {d : Value} {ns : List Int} (w : World) (hs : SentO A w) (hW : Words w) (H : Fits v t f s l) (hr : Rd w d ns) (hb : AreBytes ns) (hn : ns.length ≤ 35184372088832) :
    Calls Tryz.prog 5 #[frm v t f s l d] w fun e w' => ((ns.length : Int) = szH t l ∧ e = .returned (.tuple #[.string (str (lineB v t f s l ns)), .nilIface]) ∨ (ns.length : Int) ≠ szH t l ∧ ∃ a, e = .returned (.tuple #[.string (str []), .iface 204 (.pointer (some a))])) ∧ Aside (Below w.heap.size w w') := by
  have G0 : Aside (FAt A w w.heap.size v t f s l d ns (w.alloc (fbox v t f s l d)).drew) := ⟨⟨hs.later (alloc_below _ _).drew, (alloc_below _ _).drew, (FB.new w v t f s l d), hr.later (alloc_below _ _).drew⟩⟩
  obtain ⟨a, c, hd⟩ := hr.shape
  subst hd
  have HN := Aside.mk hn
  have HB := Aside.mk hb
  have HW := Aside.mk hW
  have HF := Aside.mk H
  have Z := Aside.mk (size_f (A := A) (w := w) (p := w.heap.size) (v := v) (t := t) (f := f) (s := s) (d := .slice a ns.length c) (ns := ns) H.l0 H.l1)
  clear hs hr hn hb hW H
  by_cases hz : (ns.length : Int) = szH t l
  · have hz' : ((ns.length : Int) != szH t l) = false := by simp [hz]
    have HZ := Aside.mk hz
    clear hz
    go_enter Tryz.func5, Tryz.ntmps5
    go_wp2_with fail
    go_region_held_law (fun w' => w'.cell? ⟨w.heap.size, 0, none⟩ = some (.int .u8 v) ∧ w'.cell? ⟨w.heap.size, 1, none⟩ = some (.int .u8 t) ∧ w'.cell? ⟨w.heap.size, 2, none⟩ = some (.int .u16 f) ∧ w'.cell? ⟨w.heap.size, 3, none⟩ = some (.int .u32 s) ∧ w'.cell? ⟨w.heap.size, 4, none⟩ = some (.int .u32 l) ∧ w'.cell? ⟨w.heap.size, 5, none⟩ = some (.slice a ns.length c))
      (exact FAt.cells (by assumption)) ((go_at_call 14; refine (Z.it _ (by assumption)).mono ?_; rintro e w2 ⟨rfl, G2⟩))
    obtain ⟨g0, g1, g2, g3, g4, g5⟩ := FAt.cells G2
    have TX := Aside.mk (text_any v t f s l HF.it.v0 HF.it.v1 HF.it.t0 HF.it.t1 HF.it.f0 HF.it.f1 HF.it.s0 HF.it.s1 HF.it.l0 HF.it.l1 w2 (HW.it.later G2.it.bB))
    obtain ⟨T, hT⟩ : ∃ T, txB v t f s l = T := ⟨_, rfl⟩
    have HT := Aside.mk hT
    have HTL : Aside (T.length ≤ 1000) := ⟨by rw [← hT]; exact txB_len v t f s l HF.it.v1 HF.it.t0 HF.it.t1 HF.it.f1 HF.it.s1 HF.it.l1⟩
    rw [hT] at TX
    clear hT G0 Z
    by_cases h0 : t = 0
    · have h0' : (t == 0) = true := by simp [h0]
      have EL : Aside (lineB v t f s l ns = T ++ 32 :: tb ns) := ⟨by unfold lineB; rw [if_pos h0, HT.it]⟩
      clear h0
      go_upto_region 4 with (first | (go_at_call 15; refine TX.it.mono ?_; rintro e w3 ⟨rfl, b3⟩; have B3 := Aside.mk b3; clear b3; have G3 := Aside.mk (G2.it.later B3.it); obtain ⟨g0, g1, g2, g3, g4, g5⟩ := FAt.cells G3) | fail)
      have O3 : Aside (OwnS w3.heap.size (w3.alloc (.cells #[.string (str T)] 9)) (.slice (some ⟨w3.heap.size, 0, none⟩) 1 1) [str T]) := ⟨own_newS w3 [str T] 1 rfl (Nat.le_refl _) (by decide)⟩
      have G4 := Aside.mk (G3.it.later (alloc_below w3 (.cells #[.string (str T)] 9)))
      obtain ⟨k0, k1, k2, k3, k4, k5⟩ := FAt.cells G4
      have BB : Aside (Below w.heap.size w (w3.alloc (.cells #[.string (str T)] 9))) := ⟨G4.it.bB⟩
      have S4 : Aside (w3.heap.size ≤ (w3.alloc (.cells #[.string (str T)] 9)).heap.size) := ⟨(alloc_below _ _).size⟩
      have S3 : Aside (w.heap.size ≤ w3.heap.size) := ⟨G3.it.bB.size⟩
      generalize w3.alloc (.cells #[.string (str T)] 9) = w4 at O3 G4 k0 k1 k2 k3 k4 k5 BB S4 ⊢
      have TD := Aside.mk (told_at w4 G4.it.rR HB.it HN.it)
      obtain ⟨D, hD⟩ : ∃ D, tb ns = D := ⟨_, rfl⟩
      have HD : Aside (D.length ≤ 105553116266500) := ⟨by have := tb_len ns; rw [hD] at this; have := HN.it; omega⟩
      rw [hD] at TD EL
      clear hD g0 g1 g2 g3 g4 g5
      go_upto_region 6 with (first
        | (go_at_call 16; refine TD.it.mono ?_; rintro e w5 ⟨rfl, B5⟩)
        | (at_builtin; refine wpList_appendS rfl (.tmp 21) (.tmp 25) rfl w3.heap.size _ _ [str T] [str D] (OwnS.later (OwnS.later O3.it B5.it) (alloc_below _ _)) (rd_newS w5 [str D] 1 rfl) (by simp) (Nat.le_trans (Nat.le_trans S4.it B5.it.size) (alloc_below _ _).size) rfl rfl ?_
           intro x6 w6 o6 k6
           have B6 : Aside (Below w.heap.size w w6) := ⟨((BB.it.trans (B5.it.mono BB.it.size)).trans ((alloc_below _ _).mono (Nat.le_trans BB.it.size B5.it.size))).trans (k6.it.mono S3.it)⟩
           obtain ⟨p6, c6, hx6⟩ := o6.it.shape
           subst hx6)
        | fail)
      have JN := Aside.mk (join_at (r := T ++ 32 :: D) o6.it (by simp) (by simp [Lib.join_cons, Lib.joinTail]) (by have := HTL.it; have := HD.it; simp; omega) (by simp))
      go_wp2_with (first | (go_at_call 17; refine JN.it.mono ?_; rintro e w7 ⟨rfl, B7⟩) | fail)
      go_ret2
      exact ⟨.inl ⟨HZ.it, by rw [EL.it]; rfl⟩, ⟨B6.it.trans (B7.it.mono B6.it.size)⟩⟩
    · have h0' : (t == 0) = false := by simp [h0]
      have EL : Aside (lineB v t f s l ns = T) := ⟨by unfold lineB; rw [if_neg h0, HT.it, List.append_nil]⟩
      clear h0
      go_upto_region 4 with (first | (go_at_call 15; refine TX.it.mono ?_; rintro e w3 ⟨rfl, b3⟩; have B3 := Aside.mk b3; clear b3; have G3 := Aside.mk (G2.it.later B3.it); obtain ⟨g0, g1, g2, g3, g4, g5⟩ := FAt.cells G3) | fail)
      have O3 : Aside (OwnS w3.heap.size (w3.alloc (.cells #[.string (str T)] 9)) (.slice (some ⟨w3.heap.size, 0, none⟩) 1 1) [str T]) := ⟨own_newS w3 [str T] 1 rfl (Nat.le_refl _) (by decide)⟩
      have G4 := Aside.mk (G3.it.later (alloc_below w3 (.cells #[.string (str T)] 9)))
      obtain ⟨k0, k1, k2, k3, k4, k5⟩ := FAt.cells G4
      have BB : Aside (Below w.heap.size w (w3.alloc (.cells #[.string (str T)] 9))) := ⟨G4.it.bB⟩
      generalize w3.alloc (.cells #[.string (str T)] 9) = w4 at O3 G4 k0 k1 k2 k3 k4 k5 BB ⊢
      have JN := Aside.mk (join_at (r := T) O3.it (by simp) (by simp [Lib.join_cons, Lib.joinTail]) (by have := HTL.it; omega) (by simp))
      clear g0 g1 g2 g3 g4 g5
      go_wp2_with (first | (go_at_call 17; refine JN.it.mono ?_; rintro e w7 ⟨rfl, B7⟩) | fail)
      go_ret2
      exact ⟨.inl ⟨HZ.it, by rw [EL.it]; rfl⟩, ⟨BB.it.trans (B7.it.mono BB.it.size)⟩⟩
  · have hz' : ((ns.length : Int) != szH t l) = true := by simp [hz]
    have HZ := Aside.mk hz
    clear hz
    go_enter Tryz.func5, Tryz.ntmps5
    go_wp2_with fail
    go_region_held_law (fun w' => w'.cell? ⟨w.heap.size, 0, none⟩ = some (.int .u8 v) ∧ w'.cell? ⟨w.heap.size, 1, none⟩ = some (.int .u8 t) ∧ w'.cell? ⟨w.heap.size, 2, none⟩ = some (.int .u16 f) ∧ w'.cell? ⟨w.heap.size, 3, none⟩ = some (.int .u32 s) ∧ w'.cell? ⟨w.heap.size, 4, none⟩ = some (.int .u32 l) ∧ w'.cell? ⟨w.heap.size, 5, none⟩ = some (.slice a ns.length c))
      (exact FAt.cells (by assumption)) ((go_at_call 14; refine (Z.it _ (by assumption)).mono ?_; rintro e w2 ⟨rfl, G2⟩))
    have cE := G2.it.sS.cell 14 0 rfl
    go_wp2_with fail
    go_quiet (fail)
    go_wp2_with fail
    go_ret2
    exact ⟨.inr ⟨HZ.it, _, rfl⟩, ⟨G2.it.bB.trans ⟨rfl, rfl, rfl, Nat.le_refl _, fun _ _ => rfl⟩⟩⟩
end Go.Proofs.YtbbldkldgjmmgaaGreatDoor

/-
  package tap: parts, Parse, of a frame's line
-/
namespace Go.Proofs.YtbbldkldgjmmgaaGreatDoor
open Go.RowKit Go.Maps
attribute [-go_sem] run_index_string

theorem idx_pre {c : UInt8} : ∀ {p r : List UInt8}, c ∉ p → Lib.indexByte (p ++ c :: r) c = p.length
  | [], r, _ => by simp [Lib.indexByte]
  | x :: p, r, h => by
    have hx : (x == c) = false := by rw [beq_eq_false_iff_ne]; intro e; exact h (by simp [e])
    have ih := idx_pre (c := c) (p := p) (r := r) (fun hm => h (List.mem_cons_of_mem x hm))
    rw [List.cons_append, Lib.indexByte, hx, ih]
    have h1 : ((p.length : Int) == -1) = false := by rw [beq_eq_false_iff_ne]; omega
    rw [h1]
    simp
theorem last_at {T D : List UInt8} (h : (32 : UInt8) ∉ D) : Lib.lastIndexByte (str (T ++ 32 :: D)) 32 = T.length := by
  have sz : (str (T ++ 32 :: D)).size = T.length + 1 + D.length := by rw [str_size]; simp; omega
  have gt : ∀ j : Nat, (str (T ++ 32 :: D)).data[j]! = ((T ++ 32 :: D)[j]?).getD (default : UInt8) := fun j => by
    show (T ++ 32 :: D).toArray[j]! = _
    rw [List.getElem!_toArray, List.getElem!_eq_getElem?_getD]
  rcases Lib.lastIndexByte_spec (str (T ++ 32 :: D)) 32 with ⟨_, hn⟩ | ⟨i, hi, e, hc, hn⟩
  · exact absurd (by rw [gt, List.getElem?_append_right (Nat.le_refl _), Nat.sub_self]; rfl) (hn T.length (by omega))
  · rw [e]
    rcases Nat.lt_trichotomy i T.length with h1 | h1 | h1
    · exact absurd (by rw [gt, List.getElem?_append_right (Nat.le_refl _), Nat.sub_self]; rfl) (hn T.length h1 (by omega))
    · rw [h1]
    · exfalso
      rw [gt, List.getElem?_append_right (by omega)] at hc
      obtain ⟨k, hk⟩ : ∃ k, i - T.length = k + 1 := ⟨i - T.length - 1, by omega⟩
      rw [hk, List.getElem?_cons_succ] at hc
      have hlt : k < D.length := by omega
      rw [List.getElem?_eq_getElem hlt] at hc
      simp only [Option.getD_some] at hc
      have : D[k] = 32 := UInt8.toNat_inj.1 (by simpa using (by omega : (D[k]).toNat = 32))
      exact h (by rw [← this]; exact List.getElem_mem hlt)
set_option maxRecDepth 20000 in
theorem cutL_at (w : World) {p r : List UInt8} (h : (32 : UInt8) ∉ p) (hl : (p ++ 32 :: r).length ≤ 140737488355328) : Calls Tryz.prog 48 #[.string (str (p ++ 32 :: r)), .string (str [32])] w fun e w' => e = .returned (.tuple #[.string (str p), .string (str r), .bool true]) ∧ Aside (Below w.heap.size w w') := by
  have IX := Aside.mk (Tryz.stringslite_Index_one (str (p ++ 32 :: r)) 32 w)
  rw [show (str (p ++ 32 :: r)).data.toList = p ++ 32 :: r from by simp, idx_pre h] at IX
  have S1 : ∀ W, (Instr.slice 9 (.string (str (p ++ 32 :: r))) none (some (.int .i64 p.length)) none).run Tryz.prog W = .ok (.string (str p)) W := fun W => by
    have := s_upto (T := p ++ 32 :: r) (b := p.length) (by simp) W
    rwa [List.take_left'] at this
    rfl
  have S2 : ∀ W, (Instr.slice 9 (.string (str (p ++ 32 :: r))) (some (.int .i64 ((p.length : Int) + 1))) none none).run Tryz.prog W = .ok (.string (str r)) W := fun W => by
    have := s_from (T := p ++ 32 :: r) (a := p.length + 1) (by simp) W
    rw [show ((p.length + 1 : Nat) : Int) = (p.length : Int) + 1 by omega] at this
    rw [this]
    congr 2
    simp [List.drop_append]
  have hp : (p.length : Int) ≤ 140737488355328 := by simp at hl; omega
  have h1 : (str [32]).size = 1 := by rw [str_size]; rfl
  generalize str (p ++ 32 :: r) = S at IX S1 S2 ⊢
  generalize p.length = n at IX S1 S2 hp
  clear h hl
  go_enter Tryz.func48, Tryz.ntmps48
  go_wp2_with (first | (go_at_call 70; refine IX.it.mono ?_; rintro e w1 ⟨rfl, rfl⟩) | fail)
  go_quiet (fail)
  go_wp2_with fail
  refine bodyPost_ret (results_tmp3 rfl _ _ _) rfl ?_
  exact ⟨rfl, ⟨⟨rfl, rfl, rfl, Nat.le_refl _, fun _ _ => rfl⟩⟩⟩
theorem cut_at (w : World) {p r : List UInt8} (h : (32 : UInt8) ∉ p) (hl : (p ++ 32 :: r).length ≤ 140737488355328) : Calls Tryz.prog 25 #[.string (str (p ++ 32 :: r)), .string (str [32])] w fun e w' => e = .returned (.tuple #[.string (str p), .string (str r), .bool true]) ∧ Aside (Below w.heap.size w w') := by
  have C := Aside.mk (cutL_at w h hl)
  generalize str (p ++ 32 :: r) = S at C ⊢
  generalize str [32] = S2 at C ⊢
  clear h hl
  go_enter Tryz.func25, Tryz.ntmps25
  go_wp2_with (first | (go_at_call 48; refine C.it.mono ?_; rintro e w1 ⟨rfl, B1⟩) | fail)
  refine bodyPost_ret (results_tmp3 rfl _ _ _) rfl ?_
  exact ⟨rfl, B1⟩
theorem begins_at (w : World) {x : List UInt8} (h : x = [100, 97, 116, 97] ∨ x = [119, 105, 110, 100, 111, 119] ∨ x = [112, 105, 110, 103] ∨ x = [97, 119, 97, 121] ∨ x = [116, 121, 112, 101]) : Calls Tryz.prog 26 #[.string (str x)] w fun e w' => e = .returned (.bool true) ∧ w' = w := by
  rcases h with rfl | rfl | rfl | rfl | rfl
  all_goals
    go_enter Tryz.func26, Tryz.ntmps26
    go_wp2
    go_ret
    exact ⟨rfl, rfl⟩
theorem parts_no (w : World) (S : ByteArray) : Calls Tryz.prog 27 #[.string S, .bool false] w fun e w' => e = .returned (.tuple #[.string S, .slice none 0 0, .nilIface]) ∧ w' = w := by
  go_enter Tryz.func27, Tryz.ntmps27
  go_wp2_with fail
  refine bodyPost_ret (results_tmp3 rfl _ _ _) rfl ?_
  exact ⟨rfl, rfl⟩
theorem tb_nb {ns : List Int} (hb : AreBytes ns) : (32 : UInt8) ∉ tb ns := fun h => by
  have := Tp.un_mem (P := fun x => 32 < x ∧ x < 127) (Tp.told_nb (b := nat ns) (fun c hc => by
    obtain ⟨z, hz, rfl⟩ := List.mem_map.1 hc
    have := hb z hz
    omega)) (fun x h => by omega) 32 h
  exact absurd this.1 (by decide)
set_option maxRecDepth 20000 in
theorem parts_at (w : World) {T : List UInt8} {ns : List Int} (hb : AreBytes ns) (hl : ns.length ≤ 4398046511104) (hT : T.length ≤ 100000) : Calls Tryz.prog 27 #[.string (str (T ++ 32 :: tb ns)), .bool true] w fun e w' => ∃ q c, e = .returned (.tuple #[.string (str T), .slice q ns.length c, .nilIface]) ∧ Aside (OwnB w.heap.size w' (.slice q ns.length c) ns) ∧ Aside (Below w.heap.size w w') := by
  have hD := tb_le ns
  have LA := Aside.mk (Tryz.strings_LastIndexByte (str (T ++ 32 :: tb ns)) 32 (by rw [str_size]; simp; omega) w)
  rw [last_at (tb_nb hb)] at LA
  have RD := Aside.mk (sread_at w hb hl)
  have S1 : ∀ W, (Instr.slice 9 (.string (str (T ++ 32 :: tb ns))) (some (.int .i64 ((T.length : Int) + 1))) none none).run Tryz.prog W = .ok (.string (str (tb ns))) W := fun W => by
    have := s_from (T := T ++ 32 :: tb ns) (a := T.length + 1) (by simp) W
    rw [show ((T.length + 1 : Nat) : Int) = (T.length : Int) + 1 by omega] at this
    rw [this]
    congr 2
    simp [List.drop_append]
  have S2 : ∀ W, (Instr.slice 9 (.string (str (T ++ 32 :: tb ns))) none (some (.int .i64 T.length)) none).run Tryz.prog W = .ok (.string (str T)) W := fun W => by
    have := s_upto (T := T ++ 32 :: tb ns) (b := T.length) (by simp) W
    rwa [List.take_left'] at this
    rfl
  have hn : (T.length : Int) ≤ 100000 := by omega
  generalize ns.length = m at RD
  generalize str (T ++ 32 :: tb ns) = S at LA S1 S2 ⊢
  generalize T.length = n at LA S1 S2 hn
  clear hb hl hT hD
  go_enter Tryz.func27, Tryz.ntmps27
  go_wp2_with (first
    | (go_at_call 49; refine LA.it.mono ?_; rintro e w1 ⟨rfl, rfl⟩)
    | (go_at_call 50; refine RD.it.mono ?_; rintro e w2 ⟨q, c, rfl, O2, B2⟩)
    | fail)
  refine bodyPost_ret (results_tmp3 rfl _ _ _) rfl ?_
  exact ⟨_, _, rfl, O2, B2⟩
end Go.Proofs.YtbbldkldgjmmgaaGreatDoor

/-
  package tap: Parse, of a frame's line
-/
namespace Go.Proofs.YtbbldkldgjmmgaaGreatDoor
open Go.RowKit Go.Maps
attribute [-go_sem] run_index_string

def isKind (x : List UInt8) : Prop := x = [100, 97, 116, 97] ∨ x = [119, 105, 110, 100, 111, 119] ∨ x = [112, 105, 110, 103] ∨ x = [97, 119, 97, 121] ∨ x = [116, 121, 112, 101]
theorem words_head (t v : Nat) (a b c d : Bool) (h s l : Nat) : ∃ x ws rest, Wd.words t v a b c d h s l = x :: ws ∧ isKind x ∧ (x = [100, 97, 116, 97] ↔ t = 0) ∧ Wd.jn (x :: ws) = x ++ 32 :: rest := by
  have ne : ∀ p : List (List UInt8), ∃ y r, p ++ (Wd.ver v ++ ((Wd.fls a b c d ++ Wd.fur h) ++ Wd.fin s l)) = y :: r := fun p => by
    cases hq : p ++ (Wd.ver v ++ ((Wd.fls a b c d ++ Wd.fur h) ++ Wd.fin s l)) with
    | nil => simp [Wd.fin] at hq
    | cons y r => exact ⟨y, r, rfl⟩
  unfold Wd.words Wd.ty
  split
  · rename_i h4
    obtain ⟨y, r, e⟩ := ne []
    rw [List.nil_append] at e
    rw [e]
    have ht : t = 0 ∨ t = 1 ∨ t = 2 ∨ t = 3 := by omega
    rcases ht with rfl | rfl | rfl | rfl
    all_goals refine ⟨_, y :: r, y ++ Wd.tl r, rfl, ?_, ?_, by simp [Wd.jn, Wd.tl]⟩
    all_goals simp [isKind, Wd.wT]
  · rename_i h4
    obtain ⟨y, r, e⟩ := ne [Lib.decDigits t]
    rw [List.singleton_append] at e
    rw [show [[116, 121, 112, 101], Lib.decDigits t] ++ (Wd.ver v ++ ((Wd.fls a b c d ++ Wd.fur h) ++ Wd.fin s l)) = [116, 121, 112, 101] :: (Lib.decDigits t :: (Wd.ver v ++ ((Wd.fls a b c d ++ Wd.fur h) ++ Wd.fin s l))) from rfl, e]
    exact ⟨[116, 121, 112, 101], y :: r, y ++ Wd.tl r, rfl, by simp [isKind], by simp; omega, by simp [Wd.jn, Wd.tl]⟩
theorem bitB_nat (f b : Nat) (hf : f ≤ 65535) (hb : b ≤ 65535) : bitB (f : Int) (b : Int) = (f &&& b != 0) := by
  unfold bitB
  rw [and_u16 f b hf hb]
  have e : ((f &&& b : Nat) : Int) = 0 ↔ f &&& b = 0 := by omega
  rw [Bool.eq_iff_iff]
  simp only [bne_iff_ne, ne_eq, e]
/-- a header's text: its first word, and what package tap guesses of it -/
theorem text_guess {v t f s l : Int} (H : Fits v t f s l) : ∃ x ws rest, txB v t f s l = Wd.jn (x :: ws) ∧ isKind x ∧ (x = [100, 97, 116, 97] ↔ t = 0) ∧ Wd.jn (x :: ws) = x ++ 32 :: rest ∧ (∀ y ∈ x :: ws, (32 : UInt8) ∉ y) ∧
    Tp.gRun [] ⟨0, 0, 0, 0, 0⟩ (x :: ws) = some ⟨v.toNat, t.toNat, f.toNat, s.toNat, l.toNat⟩ := by
  have e := txB_words v t f s l H.v0 H.t0 H.f0
  obtain ⟨x, ws, rest, ew, hk, hd, hj⟩ := words_head t.toNat v.toNat (bitB f 1) (bitB f 2) (bitB f 4) (bitB f 8) (f / 16 * 16).toNat s.toNat l.toNat
  have := H.v0; have := H.v1; have := H.t0; have := H.t1; have := H.f0; have := H.f1; have := H.s0; have := H.s1; have := H.l0; have := H.l1
  refine ⟨x, ws, rest, by rw [e, ew], hk, by rw [hd]; omega, hj, by rw [← ew]; exact Wd.words_blank _ _ _ _ _ _ _ _ _, ?_⟩
  rw [← ew, Tp.gRun_words _ _ _ _ _ _ _ _ _ (by omega) (by omega) (by omega) (by omega) (by omega)]
  obtain ⟨m, rfl⟩ : ∃ m : Nat, f = m := ⟨f.toNat, by omega⟩
  have e16 : ((m : Int) / 16 * 16).toNat = m / 16 * 16 := by omega
  have l1 : bitB (m : Int) 1 = (m &&& 1 != 0) := bitB_nat m 1 (by omega) (by decide)
  have l2 : bitB (m : Int) 2 = (m &&& 2 != 0) := bitB_nat m 2 (by omega) (by decide)
  have l3 : bitB (m : Int) 4 = (m &&& 4 != 0) := bitB_nat m 4 (by omega) (by decide)
  have l4 : bitB (m : Int) 8 = (m &&& 8 != 0) := bitB_nat m 8 (by omega) (by decide)
  rw [e16, Tp.lowF_or m _ _ _ _ l1 l2 l3 l4]
  rfl
theorem six (W : World) (rb : Nat) (v0 v1 v2 v3 v4 v5 : Value) : Keeps (fun k => k = rb) W ((((((W.setCell ⟨rb, 0, none⟩ v0).setCell ⟨rb, 1, none⟩ v1).setCell ⟨rb, 2, none⟩ v2).setCell ⟨rb, 3, none⟩ v3).setCell ⟨rb, 4, none⟩ v4).setCell ⟨rb, 5, none⟩ v5) ∧
    ∀ t a0 a1 a2 a3 a4 a5, Cells W rb t [a0, a1, a2, a3, a4, a5] → Cells ((((((W.setCell ⟨rb, 0, none⟩ v0).setCell ⟨rb, 1, none⟩ v1).setCell ⟨rb, 2, none⟩ v2).setCell ⟨rb, 3, none⟩ v3).setCell ⟨rb, 4, none⟩ v4).setCell ⟨rb, 5, none⟩ v5) rb t [v0, v1, v2, v3, v4, v5] := by
  refine ⟨?_, fun t a0 a1 a2 a3 a4 a5 h => ?_⟩
  · have k5 := (five W rb v0 v1 v2 v3 v4).1
    generalize ((((W.setCell ⟨rb, 0, none⟩ v0).setCell ⟨rb, 1, none⟩ v1).setCell ⟨rb, 2, none⟩ v2).setCell ⟨rb, 3, none⟩ v3).setCell ⟨rb, 4, none⟩ v4 = W5 at k5 ⊢
    exact k5.setCell _ _ (fun _ => rfl)
  · have h1 : Cells (W.setCell ⟨rb, 0, none⟩ v0) rb t [v0, a1, a2, a3, a4, a5] := h.setCell 0 v0
    generalize W.setCell ⟨rb, 0, none⟩ v0 = W1 at h1 ⊢
    have h2 : Cells (W1.setCell ⟨rb, 1, none⟩ v1) rb t [v0, v1, a2, a3, a4, a5] := h1.setCell 1 v1
    generalize W1.setCell ⟨rb, 1, none⟩ v1 = W2 at h2 ⊢
    have h3 : Cells (W2.setCell ⟨rb, 2, none⟩ v2) rb t [v0, v1, v2, a3, a4, a5] := h2.setCell 2 v2
    generalize W2.setCell ⟨rb, 2, none⟩ v2 = W3 at h3 ⊢
    have h4 : Cells (W3.setCell ⟨rb, 3, none⟩ v3) rb t [v0, v1, v2, v3, a4, a5] := h3.setCell 3 v3
    generalize W3.setCell ⟨rb, 3, none⟩ v3 = W4 at h4 ⊢
    have h5 : Cells (W4.setCell ⟨rb, 4, none⟩ v4) rb t [v0, v1, v2, v3, v4, a5] := h4.setCell 4 v4
    generalize W4.setCell ⟨rb, 4, none⟩ v4 = W5 at h5 ⊢
    exact h5.setCell 5 v5
theorem head_line {v t f s l : Int} {ns : List Int} {x rest : List UInt8} (e : txB v t f s l = x ++ 32 :: rest) : lineB v t f s l ns = x ++ 32 :: (rest ++ if t = 0 then 32 :: tb ns else []) := by
  unfold lineB
  rw [e, List.append_assoc]
  rfl
set_option maxRecDepth 20000 in
set_option maxHeartbeats 4000000 in
theorem parse_at (w : World) {v t f s l : Int} {ns : List Int} (hW : Words w) (H : Fits v t f s l) (hz : (ns.length : Int) = szH t l) (hb : AreBytes ns) (hl : ns.length ≤ 4398046511104) :
    Calls Tryz.prog 11 #[.string (str (lineB v t f s l ns))] w fun e w' => ∃ d, e = .returned (.tuple #[frm v t f s l d, .nilIface]) ∧ Aside (Rd w' d ns) ∧ Aside (Below w.heap.size w w') := by
  obtain ⟨x, ws, rest, e1, hk, hd, hj, hnb, hg⟩ := text_guess H
  have hTl := txB_len v t f s l H.v1 H.t0 H.t1 H.f1 H.s1 H.l1
  have CU := fun W => Aside.mk (cut_at W (p := x) (r := rest ++ if t = 0 then 32 :: tb ns else []) (hnb x (by simp)) (by
    have h1 := line_len (ns := ns) H
    rw [head_line (by rw [e1, hj])] at h1
    omega))
  have CU : Aside (∀ W, Calls Tryz.prog 25 #[.string (str (lineB v t f s l ns)), .string (str [32])] W fun e w' => e = .returned (.tuple #[.string (str x), .string (str (rest ++ if t = 0 then 32 :: tb ns else [])), .bool true]) ∧ Aside (Below W.heap.size W w')) := ⟨fun W => by
    have := (CU W).it
    rwa [← head_line (by rw [e1, hj])] at this⟩
  have BG : Aside (∀ W, Calls Tryz.prog 26 #[.string (str x)] W fun e w' => e = .returned (.bool true) ∧ w' = W) := ⟨fun W => begins_at W hk⟩
  have GU : Aside (∀ W, Calls Tryz.prog 28 #[.string (str (txB v t f s l))] W fun e w' => e = .returned (hdr v t f s l) ∧ Aside (Below W.heap.size W w')) := ⟨fun W => by
    have := guess_at W hnb (by rw [← e1]; omega) hg
    rw [← e1] at this
    refine this.mono ?_
    rintro e w' ⟨rfl, b⟩
    refine ⟨?_, b⟩
    have := H.v0; have := H.t0; have := H.f0; have := H.s0; have := H.l0
    simp only [hcl, hdr, Int.toNat_of_nonneg H.v0, Int.toNat_of_nonneg H.t0, Int.toNat_of_nonneg H.f0, Int.toNat_of_nonneg H.s0, Int.toNat_of_nonneg H.l0]⟩
  have TX : Aside (∀ W, Below w.heap.size w W → Calls Tryz.prog 15 #[hdr v t f s l] W fun e w' => e = .returned (.string (str (txB v t f s l))) ∧ Below W.heap.size W w') := ⟨fun W h => text_any v t f s l H.v0 H.v1 H.t0 H.t1 H.f0 H.f1 H.s0 H.s1 H.l0 H.l1 W (hW.later h)⟩
  have SZ : Aside (∀ W, Calls Tryz.prog 14 #[hdr v t f s l] W fun e w' => e = .returned (.int .i64 (szH t l)) ∧ w' = W.alloc (hbox v t f s l)) := ⟨fun W => size_any v t f s l W H.l0 H.l1⟩
  have bd := str_beq x [100, 97, 116, 97]
  have HZ := Aside.mk hz
  have HBY := Aside.mk hb
  have HL := Aside.mk hl
  have HT := Aside.mk hTl
  by_cases h0 : t = 0
  · rw [decide_eq_true (hd.2 h0)] at bd
    have EL : lineB v t f s l ns = txB v t f s l ++ 32 :: tb ns := by unfold lineB; rw [if_pos h0]
    have PA : Aside (∀ W, Calls Tryz.prog 27 #[.string (str (lineB v t f s l ns)), .bool true] W fun e w' => ∃ q c, e = .returned (.tuple #[.string (str (txB v t f s l)), .slice q ns.length c, .nilIface]) ∧ Aside (OwnB W.heap.size w' (.slice q ns.length c) ns) ∧ Aside (Below W.heap.size W w')) := ⟨fun W => by
      rw [EL]
      refine (parts_at W HBY.it HL.it (by have := HT.it; omega)).mono ?_
      rintro e w' ⟨q, c, rfl, O, B⟩
      exact ⟨q, c, rfl, O, B⟩⟩
    have H0 := Aside.mk h0
    obtain ⟨Z, hZ⟩ : ∃ Z, szH t l = Z := ⟨_, rfl⟩
    rw [hZ] at HZ SZ
    have hne : ((Z != (ns.length : Int)) = false) := by have := HZ.it; simp [this]
    clear e1 hk hd hj hnb hg hTl hz hb hl hW EL hZ h0
    generalize (rest ++ if t = 0 then 32 :: tb ns else []) = rr at CU
    generalize str x = Sx at CU BG bd
    generalize str (lineB v t f s l ns) = SL at CU PA ⊢
    generalize str (txB v t f s l) = ST at PA GU TX
    go_enter Tryz.func11, Tryz.ntmps11
    go_upto_region 1 with fail
    obtain ⟨w1, hw1⟩ : ∃ w1, w.alloc (.cells #[.int .u8 0, .int .u8 0, .int .u16 0, .int .u32 0, .int .u32 0, .slice none 0 0] 34) = w1 := ⟨_, rfl⟩
    have CR : Aside (Cells w1 w.heap.size 34 [.int .u8 0, .int .u8 0, .int .u16 0, .int .u32 0, .int .u32 0, .slice none 0 0]) := ⟨by rw [← hw1]; exact Cells.new w _ _⟩
    have B1 : Aside (Below w.heap.size w w1) := ⟨by rw [← hw1]; exact alloc_below _ _⟩
    rw [hw1]
    clear hw1
    obtain ⟨rb, hrb⟩ : ∃ rb, w.heap.size = rb := ⟨_, rfl⟩
    have HRB := Aside.mk hrb
    rw [hrb] at CR ⊢
    clear hrb
    go_upto_region 7 with (first
      | (go_at_call 25; refine (CU.it _).mono ?_; rintro e w2 ⟨rfl, B2⟩)
      | (go_at_call 26; refine (BG.it _).mono ?_; rintro e w3 ⟨rfl, rfl⟩)
      | (go_at_call 27; refine (PA.it _).mono ?_; rintro e w4 ⟨q, c, rfl, O4, B4⟩)
      | fail)
    have K4 : Aside (Keeps Nowhere w1 w4) := ⟨(Keeps.ofBelow B2.it).trans (Keeps.ofBelow B4.it)⟩
    have NB : Aside (∀ g, (Value.slice q ns.length c).ownBlock = some g → g ≠ rb) := ⟨fun g hg e => by
      have h1 := owns_base O4.it g hg
      have h2 := B2.it.size
      have h3 := CR.it.lt
      omega⟩
    have O4 := Aside.mk O4.it.rd
    clear BG CU PA B2 B4
    go_upto_region 8 with (first
      | (go_at_call 28; refine (GU.it _).mono ?_; rintro e w5 ⟨rfl, B5⟩)
      | fail)
    have K5 : Aside (Keeps Nowhere w1 (w5.alloc (hbox v t f s l))) := ⟨(K4.it.trans (Keeps.ofBelow B5.it)).alloc _⟩
    have H5 := Aside.mk (HB.new w5 v t f s l)
    have R5 : Aside (Rd (w5.alloc (hbox v t f s l)) (.slice q ns.length c) ns) := ⟨(O4.it.later B5.it).later (alloc_below _ _)⟩
    clear O4 B5 GU K4
    generalize w5.heap.size = hbb at H5 ⊢
    generalize w5.alloc (hbox v t f s l) = w6 at K5 H5 R5 ⊢
    have TX6 := Aside.mk (TX.it w6 (below_next B1.it K5.it B1.it.size (fun _ x _ => x.elim)))
    obtain ⟨g0, g1, g2, g3, g4⟩ := H5.it
    go_upto_region 10 with (first
      | (go_at_call 15; refine TX6.it.mono ?_; rintro e w7 ⟨rfl, b7⟩; have B7 := Aside.mk b7; clear b7)
      | fail)
    have K7 : Aside (Keeps Nowhere w1 w7) := ⟨K5.it.trans (Keeps.ofBelow B7.it)⟩
    have H7 := Aside.mk (H5.it.later B7.it)
    have R7 := Aside.mk (R5.it.later B7.it)
    clear g0 g1 g2 g3 g4 TX6 H5 R5 K5
    obtain ⟨g0, g1, g2, g3, g4⟩ := H7.it
    have SZ7 := Aside.mk (SZ.it w7)
    go_upto_region 12 with (first
      | (go_at_call 14; refine SZ7.it.mono ?_; rintro e w8 ⟨rfl, rfl⟩)
      | fail)
    have K8 : Aside (Keeps Nowhere w1 (w7.alloc (hbox v t f s l))) := ⟨K7.it.alloc _⟩
    have H8 := Aside.mk (H7.it.later (alloc_below w7 (hbox v t f s l)))
    have R8 := Aside.mk (R7.it.later (alloc_below w7 (hbox v t f s l)))
    generalize w7.alloc (hbox v t f s l) = w8 at K8 H8 R8 ⊢
    clear g0 g1 g2 g3 g4
    obtain ⟨g0, g1, g2, g3, g4⟩ := H8.it
    have C8 := Aside.mk (CR.it.later K8.it (fun x => x))
    have f0 := C8.it.frozen 0
    have f1 := C8.it.frozen 1
    have f2 := C8.it.frozen 2
    have f3 := C8.it.frozen 3
    have f4 := C8.it.frozen 4
    have f5 := C8.it.frozen 5
    have r0 : w8.cell? ⟨rb, 0, none⟩ = some (.int .u8 0) := by rw [C8.it.cell]; rfl
    have r1 : w8.cell? ⟨rb, 1, none⟩ = some (.int .u8 0) := by rw [C8.it.cell]; rfl
    have r2 : w8.cell? ⟨rb, 2, none⟩ = some (.int .u16 0) := by rw [C8.it.cell]; rfl
    have r3 : w8.cell? ⟨rb, 3, none⟩ = some (.int .u32 0) := by rw [C8.it.cell]; rfl
    have r4 : w8.cell? ⟨rb, 4, none⟩ = some (.int .u32 0) := by rw [C8.it.cell]; rfl
    have r5 : w8.cell? ⟨rb, 5, none⟩ = some (.slice none 0 0) := by rw [C8.it.cell]; rfl
    go_wp2_with fail
    obtain ⟨KR, CR0⟩ := six w8 rb (.int .u8 v) (.int .u8 t) (.int .u16 f) (.int .u32 s) (.int .u32 l) (.slice q ns.length c)
    have CF := CR0 _ _ _ _ _ _ _ C8.it
    clear CR0 f0 f1 f2 f3 f4 f5 r0 r1 r2 r3 r4 r5 g0 g1 g2 g3 g4
    generalize ((((((w8.setCell ⟨rb, 0, none⟩ (.int .u8 v)).setCell ⟨rb, 1, none⟩ (.int .u8 t)).setCell ⟨rb, 2, none⟩ (.int .u16 f)).setCell ⟨rb, 3, none⟩ (.int .u32 s)).setCell ⟨rb, 4, none⟩ (.int .u32 l)).setCell ⟨rb, 5, none⟩ (.slice q ns.length c)) = Wf at KR CF ⊢
    have z0 := CF.cell 0
    have z1 := CF.cell 1
    have z2 := CF.cell 2
    have z3 := CF.cell 3
    have z4 := CF.cell 4
    have z5 := CF.cell 5
    simp only [List.getElem?_cons_zero, List.getElem?_cons_succ] at z0 z1 z2 z3 z4 z5
    have BF : Below w.heap.size w Wf := below_next (below_next B1.it K8.it B1.it.size (fun _ x _ => x.elim)) KR (Nat.le_trans B1.it.size K8.it.size) (fun k e _ => by have : k = rb := e; have := HRB.it; omega)
    have RF := R8.it.keep KR (fun g hg e => NB.it g hg e)
    clear KR CF
    refine bodyPost_ret (v := .tuple #[frm v t f s l (.slice q ns.length c), .nilIface]) (by simp [results, Tryz.f11, go_sem, z0, z1, z2, z3, z4, z5]) rfl ?_
    exact ⟨_, rfl, ⟨RF⟩, ⟨BF⟩⟩
  · rw [decide_eq_false (fun e => h0 (hd.1 e))] at bd
    have EL : lineB v t f s l ns = txB v t f s l := by unfold lineB; rw [if_neg h0, List.append_nil]
    have EN : ns = [] := by
      have h1 : szH t l = 0 := if_neg h0
      have h2 := HZ.it
      rw [h1] at h2
      exact List.eq_nil_of_length_eq_zero (by omega)
    have PA : Aside (∀ W, Calls Tryz.prog 27 #[.string (str (lineB v t f s l ns)), .bool false] W fun e w' => ∃ q c, e = .returned (.tuple #[.string (str (txB v t f s l)), .slice q ns.length c, .nilIface]) ∧ Aside (OwnB W.heap.size w' (.slice q ns.length c) ns) ∧ Aside (Below W.heap.size W w')) := ⟨fun W => by
      rw [EL]
      refine (parts_no W (str (txB v t f s l))).mono ?_
      rintro e w' ⟨rfl, rfl⟩
      refine ⟨none, 0, by rw [EN]; rfl, ⟨?_⟩, ⟨Below.refl _ _⟩⟩
      rw [EN]
      exact ⟨rfl, .inl ⟨rfl, rfl⟩⟩⟩
    clear EN
    have H0 := Aside.mk h0
    obtain ⟨Z, hZ⟩ : ∃ Z, szH t l = Z := ⟨_, rfl⟩
    rw [hZ] at HZ SZ
    have hne : ((Z != (ns.length : Int)) = false) := by have := HZ.it; simp [this]
    clear e1 hk hd hj hnb hg hTl hz hb hl hW EL hZ h0
    generalize (rest ++ if t = 0 then 32 :: tb ns else []) = rr at CU
    generalize str x = Sx at CU BG bd
    generalize str (lineB v t f s l ns) = SL at CU PA ⊢
    generalize str (txB v t f s l) = ST at PA GU TX
    go_enter Tryz.func11, Tryz.ntmps11
    go_upto_region 1 with fail
    obtain ⟨w1, hw1⟩ : ∃ w1, w.alloc (.cells #[.int .u8 0, .int .u8 0, .int .u16 0, .int .u32 0, .int .u32 0, .slice none 0 0] 34) = w1 := ⟨_, rfl⟩
    have CR : Aside (Cells w1 w.heap.size 34 [.int .u8 0, .int .u8 0, .int .u16 0, .int .u32 0, .int .u32 0, .slice none 0 0]) := ⟨by rw [← hw1]; exact Cells.new w _ _⟩
    have B1 : Aside (Below w.heap.size w w1) := ⟨by rw [← hw1]; exact alloc_below _ _⟩
    rw [hw1]
    clear hw1
    obtain ⟨rb, hrb⟩ : ∃ rb, w.heap.size = rb := ⟨_, rfl⟩
    have HRB := Aside.mk hrb
    rw [hrb] at CR ⊢
    clear hrb
    go_upto_region 7 with (first
      | (go_at_call 25; refine (CU.it _).mono ?_; rintro e w2 ⟨rfl, B2⟩)
      | (go_at_call 26; refine (BG.it _).mono ?_; rintro e w3 ⟨rfl, rfl⟩)
      | (go_at_call 27; refine (PA.it _).mono ?_; rintro e w4 ⟨q, c, rfl, O4, B4⟩)
      | fail)
    have K4 : Aside (Keeps Nowhere w1 w4) := ⟨(Keeps.ofBelow B2.it).trans (Keeps.ofBelow B4.it)⟩
    have NB : Aside (∀ g, (Value.slice q ns.length c).ownBlock = some g → g ≠ rb) := ⟨fun g hg e => by
      have h1 := owns_base O4.it g hg
      have h2 := B2.it.size
      have h3 := CR.it.lt
      omega⟩
    have O4 := Aside.mk O4.it.rd
    clear BG CU PA B2 B4
    go_upto_region 8 with (first
      | (go_at_call 28; refine (GU.it _).mono ?_; rintro e w5 ⟨rfl, B5⟩)
      | fail)
    have K5 : Aside (Keeps Nowhere w1 (w5.alloc (hbox v t f s l))) := ⟨(K4.it.trans (Keeps.ofBelow B5.it)).alloc _⟩
    have H5 := Aside.mk (HB.new w5 v t f s l)
    have R5 : Aside (Rd (w5.alloc (hbox v t f s l)) (.slice q ns.length c) ns) := ⟨(O4.it.later B5.it).later (alloc_below _ _)⟩
    clear O4 B5 GU K4
    generalize w5.heap.size = hbb at H5 ⊢
    generalize w5.alloc (hbox v t f s l) = w6 at K5 H5 R5 ⊢
    have TX6 := Aside.mk (TX.it w6 (below_next B1.it K5.it B1.it.size (fun _ x _ => x.elim)))
    obtain ⟨g0, g1, g2, g3, g4⟩ := H5.it
    go_upto_region 10 with (first
      | (go_at_call 15; refine TX6.it.mono ?_; rintro e w7 ⟨rfl, b7⟩; have B7 := Aside.mk b7; clear b7)
      | fail)
    have K7 : Aside (Keeps Nowhere w1 w7) := ⟨K5.it.trans (Keeps.ofBelow B7.it)⟩
    have H7 := Aside.mk (H5.it.later B7.it)
    have R7 := Aside.mk (R5.it.later B7.it)
    clear g0 g1 g2 g3 g4 TX6 H5 R5 K5
    obtain ⟨g0, g1, g2, g3, g4⟩ := H7.it
    have SZ7 := Aside.mk (SZ.it w7)
    go_upto_region 12 with (first
      | (go_at_call 14; refine SZ7.it.mono ?_; rintro e w8 ⟨rfl, rfl⟩)
      | fail)
    have K8 : Aside (Keeps Nowhere w1 (w7.alloc (hbox v t f s l))) := ⟨K7.it.alloc _⟩
    have H8 := Aside.mk (H7.it.later (alloc_below w7 (hbox v t f s l)))
    have R8 := Aside.mk (R7.it.later (alloc_below w7 (hbox v t f s l)))
    generalize w7.alloc (hbox v t f s l) = w8 at K8 H8 R8 ⊢
    clear g0 g1 g2 g3 g4
    obtain ⟨g0, g1, g2, g3, g4⟩ := H8.it
    have C8 := Aside.mk (CR.it.later K8.it (fun x => x))
    have f0 := C8.it.frozen 0
    have f1 := C8.it.frozen 1
    have f2 := C8.it.frozen 2
    have f3 := C8.it.frozen 3
    have f4 := C8.it.frozen 4
    have f5 := C8.it.frozen 5
    have r0 : w8.cell? ⟨rb, 0, none⟩ = some (.int .u8 0) := by rw [C8.it.cell]; rfl
    have r1 : w8.cell? ⟨rb, 1, none⟩ = some (.int .u8 0) := by rw [C8.it.cell]; rfl
    have r2 : w8.cell? ⟨rb, 2, none⟩ = some (.int .u16 0) := by rw [C8.it.cell]; rfl
    have r3 : w8.cell? ⟨rb, 3, none⟩ = some (.int .u32 0) := by rw [C8.it.cell]; rfl
    have r4 : w8.cell? ⟨rb, 4, none⟩ = some (.int .u32 0) := by rw [C8.it.cell]; rfl
    have r5 : w8.cell? ⟨rb, 5, none⟩ = some (.slice none 0 0) := by rw [C8.it.cell]; rfl
    go_wp2_with fail
    obtain ⟨KR, CR0⟩ := six w8 rb (.int .u8 v) (.int .u8 t) (.int .u16 f) (.int .u32 s) (.int .u32 l) (.slice q ns.length c)
    have CF := CR0 _ _ _ _ _ _ _ C8.it
    clear CR0 f0 f1 f2 f3 f4 f5 r0 r1 r2 r3 r4 r5 g0 g1 g2 g3 g4
    generalize ((((((w8.setCell ⟨rb, 0, none⟩ (.int .u8 v)).setCell ⟨rb, 1, none⟩ (.int .u8 t)).setCell ⟨rb, 2, none⟩ (.int .u16 f)).setCell ⟨rb, 3, none⟩ (.int .u32 s)).setCell ⟨rb, 4, none⟩ (.int .u32 l)).setCell ⟨rb, 5, none⟩ (.slice q ns.length c)) = Wf at KR CF ⊢
    have z0 := CF.cell 0
    have z1 := CF.cell 1
    have z2 := CF.cell 2
    have z3 := CF.cell 3
    have z4 := CF.cell 4
    have z5 := CF.cell 5
    simp only [List.getElem?_cons_zero, List.getElem?_cons_succ] at z0 z1 z2 z3 z4 z5
    have BF : Below w.heap.size w Wf := below_next (below_next B1.it K8.it B1.it.size (fun _ x _ => x.elim)) KR (Nat.le_trans B1.it.size K8.it.size) (fun k e _ => by have : k = rb := e; have := HRB.it; omega)
    have RF := R8.it.keep KR (fun g hg e => NB.it g hg e)
    clear KR CF
    refine bodyPost_ret (v := .tuple #[frm v t f s l (.slice q ns.length c), .nilIface]) (by simp [results, Tryz.f11, go_sem, z0, z1, z2, z3, z4, z5]) rfl ?_
    exact ⟨_, rfl, ⟨RF⟩, ⟨BF⟩⟩
end Go.Proofs.YtbbldkldgjmmgaaGreatDoor

/-
  package tap: firstWord, raw, written
-/
namespace Go.Proofs.YtbbldkldgjmmgaaGreatDoor
open Go.RowKit Go.Maps
attribute [-go_sem] run_index_string

abbrev bla : List UInt8 := [32, 9, 13]
theorem any_pre : ∀ {p r : List UInt8}, (∀ x ∈ p, bla.contains x = false) → Lib.indexAny (p ++ 32 :: r) bla = p.length
  | [], r, _ => by simp [Lib.indexAny]
  | x :: p, r, h => by
    have hx := h x (by simp)
    have ih := any_pre (p := p) (r := r) (fun y hy => h y (List.mem_cons_of_mem x hy))
    rw [List.cons_append, Lib.indexAny, hx, ih]
    have h1 : ((p.length : Int) == -1) = false := by rw [beq_eq_false_iff_ne]; omega
    rw [h1]
    simp
theorem trim_pre {x : UInt8} {p : List UInt8} (h : bla.contains x = false) : Lib.trimLeftS (x :: p) bla = x :: p := by
  unfold Lib.trimLeftS
  rw [List.dropWhile_cons, h]
  rfl
theorem trimLeft_at (w : World) (s : List UInt8) : Calls Tryz.prog 65 #[.string (str s), .string (str bla)] w fun e w' => e = .returned (.string (str (Lib.trimLeftS s bla))) ∧ Below w.heap.size w w' := by
  have := Any.strings_TrimLeft_laid Tryz.lays161 (by kernel_rfl) (str s) (str bla) w (by rw [str_size]; decide) (fun j b hj => by
    have h2 : bla[j]? = some b := by simpa using hj
    have : ∀ x ∈ bla, x.toNat < 128 := by decide
    exact this b (List.mem_of_getElem? h2))
  rw [show (str s).data.toList = s from by simp, show (str bla).data.toList = bla from by simp] at this
  exact this
theorem indexAny_at (w : World) {s : List UInt8} (hl : s.length < 4294967281) (ha : ∀ x ∈ s, x.toNat < 128) : Calls Tryz.prog 66 #[.string (str s), .string (str bla)] w fun e w' => e = .returned (.int .i64 (Lib.indexAny s bla)) ∧ Below w.heap.size w w' := by
  have := Tryz.strings_IndexAny_laid (str s) (str bla) w (by rw [str_size]; exact hl) (by rw [str_size]; decide) (fun j b hj => ha b (List.mem_of_getElem? (by simpa using hj))) (fun j b hj => by
    have h2 : bla[j]? = some b := by simpa using hj
    have : ∀ x ∈ bla, x.toNat < 128 := by decide
    exact this b (List.mem_of_getElem? h2))
  simpa using this
theorem first_nil (w : World) : Calls Tryz.prog 44 #[.string (str [])] w fun e w' => e = .returned (.string (str [])) ∧ Aside (Below w.heap.size w w') := by
  have T := Aside.mk (trimLeft_at w [])
  have I : Aside (∀ W, Calls Tryz.prog 66 #[.string (str []), .string (str bla)] W fun e w' => e = .returned (.int .i64 (-1)) ∧ Below W.heap.size W w') := ⟨fun W => indexAny_at W (s := []) (by decide) (fun x hx => by cases hx)⟩
  rw [show Lib.trimLeftS [] bla = [] from rfl] at T
  generalize str [] = S at T I ⊢
  go_enter Tryz.func44, Tryz.ntmps44
  go_wp2_with (first
    | (go_at_call 65; refine T.it.mono ?_; rintro e w1 ⟨rfl, b1⟩; have B1 := Aside.mk b1; clear b1)
    | (go_at_call 66; refine (I.it _).mono ?_; rintro e w2 ⟨rfl, b2⟩; have B2 := Aside.mk b2; clear b2)
    | fail)
  go_ret
  exact ⟨rfl, ⟨B1.it.trans (B2.it.mono B1.it.size)⟩⟩
theorem first_at (w : World) {x : UInt8} {p r : List UInt8} (hp : ∀ y ∈ x :: p, bla.contains y = false) (ha : ∀ y ∈ (x :: p) ++ 32 :: r, y.toNat < 128) (hl : ((x :: p) ++ 32 :: r).length < 4294967281) :
    Calls Tryz.prog 44 #[.string (str ((x :: p) ++ 32 :: r))] w fun e w' => e = .returned (.string (str (x :: p))) ∧ Aside (Below w.heap.size w w') := by
  have T := Aside.mk (trimLeft_at w ((x :: p) ++ 32 :: r))
  rw [List.cons_append, trim_pre (hp x (by simp)), ← List.cons_append] at T
  have I : Aside (∀ W, Calls Tryz.prog 66 #[.string (str ((x :: p) ++ 32 :: r)), .string (str bla)] W fun e w' => e = .returned (.int .i64 ((x :: p).length : Nat)) ∧ Below W.heap.size W w') := ⟨fun W => by
    have := indexAny_at W hl ha
    rwa [any_pre hp] at this⟩
  have S1 : ∀ W, (Instr.slice 9 (.string (str ((x :: p) ++ 32 :: r))) none (some (.int .i64 ((x :: p).length : Nat))) none).run Tryz.prog W = .ok (.string (str (x :: p))) W := fun W => by
    have := s_upto (T := (x :: p) ++ 32 :: r) (b := (x :: p).length) (by simp) W
    rwa [List.take_left'] at this
    rfl
  have hn : ((x :: p).length : Int) ≤ 4294967281 := by simp at hl ⊢; omega
  generalize str ((x :: p) ++ 32 :: r) = S at T I S1 ⊢
  generalize str (x :: p) = S2 at S1 ⊢
  generalize (x :: p).length = n at I S1 hn
  clear hp ha hl
  go_enter Tryz.func44, Tryz.ntmps44
  go_wp2_with (first
    | (go_at_call 65; refine T.it.mono ?_; rintro e w1 ⟨rfl, b1⟩; have B1 := Aside.mk b1; clear b1)
    | (go_at_call 66; refine (I.it _).mono ?_; rintro e w2 ⟨rfl, b2⟩; have B2 := Aside.mk b2; clear b2)
    | fail)
  go_ret
  exact ⟨rfl, ⟨B1.it.trans (B2.it.mono B1.it.size)⟩⟩
abbrev byB : List UInt8 := [98, 121, 116, 101, 115]
theorem raw_at (w : World) {ns : List Int} (hb : AreBytes ns) (hl : ns.length ≤ 4398046511104) : Calls Tryz.prog 46 #[.string (str (byB ++ 32 :: tb ns))] w fun e w' => ∃ q c, e = .returned (.tuple #[.slice q ns.length c, .nilIface]) ∧ Aside (Rd w' (.slice q ns.length c) ns) ∧ Aside (Below w.heap.size w w') := by
  have C := Aside.mk (Tryz.strings_CutPrefix (str (byB ++ 32 :: tb ns)) (str [98, 121, 116, 101, 115, 32]) w)
  have e1 : Lib.hasPrefix (byB ++ 32 :: tb ns) [98, 121, 116, 101, 115, 32] = true := by simp [Lib.hasPrefix]
  have e2 : Lib.trimPrefix (byB ++ 32 :: tb ns) [98, 121, 116, 101, 115, 32] = tb ns := by unfold Lib.trimPrefix; rw [e1]; simp
  rw [show (str (byB ++ 32 :: tb ns)).data.toList = byB ++ 32 :: tb ns from by simp, show (str [98, 121, 116, 101, 115, 32]).data.toList = [98, 121, 116, 101, 115, 32] from by simp, e1, e2] at C
  have R := Aside.mk (sread_at w hb hl)
  generalize str (byB ++ 32 :: tb ns) = S at C ⊢
  change Aside (Calls _ _ _ _ fun e w' => e = .returned (.tuple #[.string (str (tb ns)), .bool true]) ∧ w' = w) at C
  generalize str (tb ns) = S2 at C R
  generalize ns.length = n at R ⊢
  clear e1 e2 hb hl
  go_enter Tryz.func46, Tryz.ntmps46
  go_wp2_with (first
    | (go_at_call 68; refine C.it.mono ?_; rintro e w1 ⟨rfl, rfl⟩)
    | (go_at_call 50; refine R.it.mono ?_; rintro e w2 ⟨q, c, rfl, O2, B2⟩)
    | fail)
  go_ret2
  exact ⟨_, _, rfl, ⟨O2.it.rd⟩, B2⟩
/-- what a text's line writes -/
inductive Wr : List UInt8 → List Int → Prop
  | none : Wr [] []
  | remark (p r : List UInt8) : (∀ y ∈ p, bla.contains y = false) → (∀ y ∈ p ++ 32 :: r, y.toNat < 128) → (p ++ 32 :: r).length ≤ 1000000 → Wr (35 :: (p ++ 32 :: r)) []
  | bytes (ns : List Int) : AreBytes ns → ns.length ≤ 1000000 → Wr (byB ++ 32 :: tb ns) ns
  | frame (v t f s l : Int) (ns : List Int) : Fits v t f s l → (ns.length : Int) = szH t l → AreBytes ns → ns.length ≤ 100000000 → Wr (lineB v t f s l ns) (enc v t f s l ++ ns)
theorem prefix_35 (w : World) (p : List UInt8) : Calls Tryz.prog 45 #[.string (str (35 :: p)), .string (str [35])] w fun e w' => e = .returned (.bool true) ∧ w' = w := by
  have := Tryz.strings_HasPrefix (str (35 :: p)) (str [35]) w
  rw [show (str (35 :: p)).data.toList = 35 :: p from by simp, show (str [35]).data.toList = [35] from by simp, show Lib.hasPrefix (35 :: p) [35] = true from by simp [Lib.hasPrefix]] at this
  exact this
theorem prefix_no (w : World) {x : UInt8} {p : List UInt8} (h : x ≠ 35) : Calls Tryz.prog 45 #[.string (str (x :: p)), .string (str [35])] w fun e w' => e = .returned (.bool false) ∧ w' = w := by
  have := Tryz.strings_HasPrefix (str (x :: p)) (str [35]) w
  rw [show (str (x :: p)).data.toList = x :: p from by simp, show (str [35]).data.toList = [35] from by simp, show Lib.hasPrefix (x :: p) [35] = false from by
    show ((35 : UInt8) == x && List.isPrefixOf [] p) = false
    rw [show ((35 : UInt8) == x) = false from by rw [beq_eq_false_iff_ne]; exact Ne.symm h]
    rfl] at this
  exact this
theorem str_ne_nil (x : UInt8) (p : List UInt8) : ((str (x :: p)).toList == []) = false := by rw [str_beq]; simp
theorem rd_nil (w : World) : Rd w (.slice none 0 0) [] := OwnB.rd (B := 0) ⟨rfl, .inl ⟨rfl, rfl⟩⟩
theorem written_none (w : World) : Calls Tryz.prog 23 #[.string (str [])] w fun e w' => e = .returned (.tuple #[.slice none 0 0, .nilIface]) ∧ Aside (Below w.heap.size w w') := by
  have F := Aside.mk (first_nil w)
  have h0 : ((str []).toList == []) = true := by rw [str_beq]; rfl
  generalize str [] = S at F h0 ⊢
  go_enter Tryz.func23, Tryz.ntmps23
  go_wp2_with (first
    | (go_at_call 44; refine F.it.mono ?_; rintro e w1 ⟨rfl, B1⟩)
    | fail)
  go_ret2
  exact ⟨rfl, B1⟩
theorem written_remark (w : World) {p r : List UInt8} (hp : ∀ y ∈ p, bla.contains y = false) (ha : ∀ y ∈ p ++ 32 :: r, y.toNat < 128) (hl : (p ++ 32 :: r).length ≤ 1000000) : Calls Tryz.prog 23 #[.string (str (35 :: (p ++ 32 :: r)))] w fun e w' => e = .returned (.tuple #[.slice none 0 0, .nilIface]) ∧ Aside (Below w.heap.size w w') := by
  have F := Aside.mk (first_at w (x := 35) (p := p) (r := r) (fun y hy => by rcases List.mem_cons.1 hy with rfl | h; rfl; exact hp y h) (fun y hy => by rw [List.cons_append] at hy; rcases List.mem_cons.1 hy with rfl | h; decide; exact ha y h) (by rw [List.cons_append, List.length_cons]; omega))
  rw [List.cons_append] at F
  have P : Aside (∀ W, Calls Tryz.prog 45 #[.string (str (35 :: p)), .string (str [35])] W fun e w' => e = .returned (.bool true) ∧ w' = W) := ⟨fun W => prefix_35 W p⟩
  have h0 := str_ne_nil 35 p
  generalize str (35 :: (p ++ 32 :: r)) = S at F ⊢
  generalize str (35 :: p) = S2 at F P h0
  clear hp ha hl
  go_enter Tryz.func23, Tryz.ntmps23
  go_wp2_with (first
    | (go_at_call 44; refine F.it.mono ?_; rintro e w1 ⟨rfl, B1⟩)
    | (go_at_call 45; refine (P.it _).mono ?_; rintro e w2 ⟨rfl, rfl⟩)
    | fail)
  go_ret2
  exact ⟨rfl, B1⟩
theorem tb_ascii {ns : List Int} (hb : AreBytes ns) : ∀ y ∈ tb ns, y.toNat < 128 := fun y hy => by
  have := Tp.un_mem (P := fun x => 32 < x ∧ x < 127) (Tp.told_nb (b := nat ns) (fun c hc => by
    obtain ⟨z, hz, rfl⟩ := List.mem_map.1 hc
    have := hb z hz
    omega)) (fun x h => by omega) y hy
  omega
theorem written_bytes (w : World) {ns : List Int} (hb : AreBytes ns) (hl : ns.length ≤ 1000000) : Calls Tryz.prog 23 #[.string (str (byB ++ 32 :: tb ns))] w fun e w' => ∃ q c, e = .returned (.tuple #[.slice q ns.length c, .nilIface]) ∧ Aside (Rd w' (.slice q ns.length c) ns) ∧ Aside (Below w.heap.size w w') := by
  have hD := tb_le ns
  have F := Aside.mk (first_at w (x := 98) (p := [121, 116, 101, 115]) (r := tb ns) (by decide) (fun y hy => by
    rcases List.mem_append.1 hy with h | h
    · have : ∀ x ∈ byB, x.toNat < 128 := by decide
      exact this y h
    · rcases List.mem_cons.1 h with rfl | h
      · decide
      · exact tb_ascii hb y h) (by simp; omega))
  have P : Aside (∀ W, Calls Tryz.prog 45 #[.string (str byB), .string (str [35])] W fun e w' => e = .returned (.bool false) ∧ w' = W) := ⟨fun W => prefix_no W (by decide)⟩
  have h0 := str_ne_nil 98 [121, 116, 101, 115]
  have h1 := str_beq byB byB
  rw [decide_eq_true rfl] at h1
  have RW : Aside (∀ W, Calls Tryz.prog 46 #[.string (str (byB ++ 32 :: tb ns))] W fun e w' => ∃ q c, e = .returned (.tuple #[.slice q ns.length c, .nilIface]) ∧ Aside (Rd w' (.slice q ns.length c) ns) ∧ Aside (Below W.heap.size W w')) := ⟨fun W => raw_at W hb (by omega)⟩
  generalize ns.length = n at RW ⊢
  generalize str (byB ++ 32 :: tb ns) = S at F RW ⊢
  generalize str byB = S2 at F P h0 h1
  clear hb hl hD
  go_enter Tryz.func23, Tryz.ntmps23
  go_wp2_with (first
    | (go_at_call 44; refine F.it.mono ?_; rintro e w1 ⟨rfl, B1⟩)
    | (go_at_call 45; refine (P.it _).mono ?_; rintro e w2 ⟨rfl, rfl⟩)
    | (go_at_call 46; refine (RW.it _).mono ?_; rintro e w3 ⟨q, c, rfl, R3, B3⟩)
    | fail)
  go_ret2
  exact ⟨_, _, rfl, R3, ⟨B1.it.trans (B3.it.mono B1.it.size)⟩⟩
theorem dig_ascii {n : Nat} : ∀ y ∈ Lib.decDigits n, y.toNat < 128 := fun y hy => by
  have := Wd.dd_digit n y hy
  omega
theorem tl_ascii {ws : List (List UInt8)} (h : ∀ x ∈ ws, ∀ y ∈ x, y.toNat < 128) : ∀ y ∈ Wd.tl ws, y.toNat < 128 := fun y hy => by
  obtain ⟨x, hx, hy⟩ := List.mem_flatMap.1 hy
  rcases List.mem_cons.1 hy with rfl | hy
  · decide
  · exact h x hx y hy
theorem words_ascii (t v : Nat) (a b c d : Bool) (h s l : Nat) : ∀ x ∈ Wd.words t v a b c d h s l, ∀ y ∈ x, y.toNat < 128 := by
  have dd : ∀ n, ∀ y ∈ Lib.decDigits n, y.toNat < 128 := fun n y hy => dig_ascii y hy
  have lit : ∀ x ∈ ([[116, 121, 112, 101], [118, 101, 114, 115, 105, 111, 110], [102, 108, 97, 103, 115], [115, 116, 114, 101, 97, 109], [108, 101, 110, 103, 116, 104], [115, 121, 110], [97, 99, 107], [102, 105, 110], [114, 115, 116], [100, 97, 116, 97], [119, 105, 110, 100, 111, 119], [112, 105, 110, 103], [97, 119, 97, 121], []] : List (List UInt8)), ∀ y ∈ x, y.toNat < 128 := by decide
  intro x hx
  unfold Wd.words at hx
  rcases List.mem_append.1 hx with hx | hx
  · unfold Wd.ty at hx
    split at hx
    · have ht : t = 0 ∨ t = 1 ∨ t = 2 ∨ t = 3 := by omega
      simp only [List.mem_singleton] at hx
      subst hx
      rcases ht with rfl | rfl | rfl | rfl <;> exact lit _ (by simp [Wd.wT])
    · simp only [List.mem_cons, List.not_mem_nil, or_false] at hx
      rcases hx with rfl | rfl
      · exact lit _ (by simp)
      · exact dd _
  rcases List.mem_append.1 hx with hx | hx
  · rcases Wd.ver_mem hx with rfl | rfl
    · exact lit _ (by simp)
    · exact dd _
  rcases List.mem_append.1 hx with hx | hx
  · rcases List.mem_append.1 hx with hx | hx
    · rcases Wd.fls_mem hx with ⟨rfl, _⟩ | ⟨rfl, _⟩ | ⟨rfl, _⟩ | ⟨rfl, _⟩ <;> exact lit _ (by simp)
    · rcases Wd.fur_mem hx with rfl | rfl
      · exact lit _ (by simp)
      · exact dd _
  · simp only [Wd.fin, List.mem_cons, List.not_mem_nil, or_false] at hx
    rcases hx with rfl | rfl | rfl | rfl
    · exact lit _ (by simp)
    · exact dd _
    · exact lit _ (by simp)
    · exact dd _
theorem txB_ascii {v t f s l : Int} (H : Fits v t f s l) : ∀ y ∈ txB v t f s l, y.toNat < 128 := by
  rw [txB_words v t f s l H.v0 H.t0 H.f0]
  have h := words_ascii t.toNat v.toNat (bitB f 1) (bitB f 2) (bitB f 4) (bitB f 8) (f / 16 * 16).toNat s.toNat l.toNat
  cases hq : Wd.words t.toNat v.toNat (bitB f 1) (bitB f 2) (bitB f 4) (bitB f 8) (f / 16 * 16).toNat s.toNat l.toNat with
  | nil => intro y hy; simp [Wd.jn] at hy
  | cons x r =>
    rw [hq] at h
    intro y hy
    rcases List.mem_append.1 (show y ∈ x ++ Wd.tl r from hy) with hy | hy
    · exact h x (by simp) y hy
    · exact tl_ascii (fun z hz => h z (by simp [hz])) y hy
theorem line_ascii {v t f s l : Int} {ns : List Int} (H : Fits v t f s l) (hb : AreBytes ns) : ∀ y ∈ lineB v t f s l ns, y.toNat < 128 := fun y hy => by
  unfold lineB at hy
  rcases List.mem_append.1 hy with hy | hy
  · exact txB_ascii H y hy
  · split at hy
    · rcases List.mem_cons.1 hy with rfl | hy
      · decide
      · exact tb_ascii hb y hy
    · cases hy
theorem kind_cons {x : List UInt8} (h : isKind x) : ∃ a p, x = a :: p ∧ a ≠ 35 ∧ x ≠ byB ∧ ∀ y ∈ x, bla.contains y = false := by
  rcases h with rfl | rfl | rfl | rfl | rfl
  all_goals exact ⟨_, _, rfl, by decide, by decide, by decide⟩
set_option maxRecDepth 20000 in
theorem written_frame {A : Nat → Addr} (w : World) {v t f s l : Int} {ns : List Int} (hs : SentO A w) (hW : Words w) (H : Fits v t f s l) (hz : (ns.length : Int) = szH t l) (hb : AreBytes ns) (hl : ns.length ≤ 100000000) :
    Calls Tryz.prog 23 #[.string (str (lineB v t f s l ns))] w fun e w' => ∃ q n c, e = .returned (.tuple #[.slice q n c, .nilIface]) ∧ Aside (Rd w' (.slice q n c) (enc v t f s l ++ ns)) ∧ Aside (Below w.heap.size w w') := by
  obtain ⟨x, ws, rest, e1, hk, hd, hj, hnb, hg⟩ := text_guess H
  have eL := head_line (ns := ns) (x := x) (rest := rest) (by rw [e1, hj])
  obtain ⟨a, p, rfl, ha35, hxb, hbl⟩ := kind_cons hk
  have hasc := line_ascii H hb
  have hlen := line_len (ns := ns) H
  rw [eL] at hasc hlen
  have F := Aside.mk (first_at w (x := a) (p := p) (r := rest ++ if t = 0 then 32 :: tb ns else []) hbl hasc (by omega))
  rw [← eL] at F
  have P : Aside (∀ W, Calls Tryz.prog 45 #[.string (str (a :: p)), .string (str [35])] W fun e w' => e = .returned (.bool false) ∧ w' = W) := ⟨fun W => prefix_no W ha35⟩
  have h0 := str_ne_nil a p
  have h1 := str_beq (a :: p) byB
  rw [decide_eq_false hxb] at h1
  have PS : Aside (∀ W, Below w.heap.size w W → Calls Tryz.prog 11 #[.string (str (lineB v t f s l ns))] W fun e w' => ∃ d, e = .returned (.tuple #[frm v t f s l d, .nilIface]) ∧ Aside (Rd w' d ns) ∧ Aside (Below W.heap.size W w')) := ⟨fun W h => parse_at W (hW.later h) H hz hb (by omega)⟩
  have BY : Aside (∀ W d, Below w.heap.size w W → Rd W d ns → Calls Tryz.prog 47 #[frm v t f s l d] W fun e w' => ∃ q n c, e = .returned (.tuple #[.slice q n c, .nilIface]) ∧ Aside (Rd w' (.slice q n c) (enc v t f s l ++ ns)) ∧ Aside (Below W.heap.size W w')) := ⟨fun W d h hr => by
    refine (bytes_any v t f s l d ns W (hs.later h) hr (by omega) H.f0 H.f1 H.s0 H.s1 H.l0 H.l1).mono ?_
    rintro e w' ⟨y, ev, rfl, V, O, hb⟩
    have eE : bE t l ns.length = 0 := if_pos hz
    have eO : bO v t f s l ns = enc v t f s l ++ ns := if_pos hz
    rw [eE] at V
    rw [eO] at O
    obtain ⟨q, c, e⟩ := O.it.shape
    subst e
    exact ⟨q, _, c, by rw [Coded.zero V.it], ⟨O.it.rd⟩, ⟨hb⟩⟩⟩
  generalize str (lineB v t f s l ns) = S at F PS ⊢
  generalize str (a :: p) = S2 at F P h0 h1
  clear e1 hk hd hj hnb hg eL ha35 hxb hbl hasc hlen hz hb hl hs hW H
  go_enter Tryz.func23, Tryz.ntmps23
  go_upto_region 6 with (first
    | (go_at_call 44; refine F.it.mono ?_; rintro e w1 ⟨rfl, B1⟩)
    | (go_at_call 45; refine (P.it _).mono ?_; rintro e w2 ⟨rfl, rfl⟩)
    | fail)
  have PS1 := Aside.mk (PS.it _ B1.it)
  go_upto_region 7 with (first
    | (go_at_call 11; refine PS1.it.mono ?_; rintro e w3 ⟨d, rfl, R3, B3⟩; obtain ⟨dq, dc, hd⟩ := R3.it.shape; subst hd)
    | fail)
  have H3 := Aside.mk (FB.new w3 v t f s l (.slice dq ns.length dc))
  have R4 := Aside.mk (R3.it.later (alloc_below w3 (fbox v t f s l (.slice dq ns.length dc))))
  have B4 : Aside (Below w.heap.size w (w3.alloc (fbox v t f s l (.slice dq ns.length dc)))) := ⟨(B1.it.trans (B3.it.mono B1.it.size)).trans ((alloc_below _ _).mono (Nat.le_trans B1.it.size B3.it.size))⟩
  generalize w3.heap.size = fb at H3 ⊢
  generalize w3.alloc (fbox v t f s l (.slice dq ns.length dc)) = w4 at H3 R4 B4 ⊢
  obtain ⟨⟨g0, g1, g2, g3, g4⟩, g5⟩ := H3.it
  have BY4 := Aside.mk (BY.it w4 _ B4.it R4.it)
  go_wp2_with (first
    | (go_at_call 47; refine BY4.it.mono ?_; rintro e w5 ⟨q, n, c, rfl, R5, B5⟩)
    | fail)
  go_ret2
  exact ⟨_, _, _, rfl, R5, ⟨B4.it.trans (B5.it.mono B4.it.size)⟩⟩
theorem written_at {A : Nat → Addr} (w : World) {L : List UInt8} {ns : List Int} (hs : SentO A w) (hW : Words w) (h : Wr L ns) :
    Calls Tryz.prog 23 #[.string (str L)] w fun e w' => ∃ q n c, e = .returned (.tuple #[.slice q n c, .nilIface]) ∧ Aside (Rd w' (.slice q n c) ns) ∧ Aside (Below w.heap.size w w') := by
  cases h with
  | none =>
    refine (written_none w).mono ?_
    rintro e w' ⟨rfl, b⟩
    exact ⟨_, _, _, rfl, ⟨rd_nil w'⟩, b⟩
  | remark p r h1 h2 h3 =>
    refine (written_remark w h1 h2 h3).mono ?_
    rintro e w' ⟨rfl, b⟩
    exact ⟨_, _, _, rfl, ⟨rd_nil w'⟩, b⟩
  | bytes ns hb hl =>
    refine (written_bytes w hb hl).mono ?_
    rintro e w' ⟨q, c, rfl, r, b⟩
    exact ⟨_, _, _, rfl, r, b⟩
  | frame v t f s l ns H hz hb hl => exact written_frame w hs hW H hz hb hl
end Go.Proofs.YtbbldkldgjmmgaaGreatDoor

/-
  package tap: Assemble
-/
namespace Go.Proofs.YtbbldkldgjmmgaaGreatDoor
open Go.RowKit Go.Shelf Go.Maps
attribute [-go_sem] run_index_string
attribute [-go_sem] Builtin.append_
attribute [local go_sem] Oper.semAt_some

/-- append onto a row in blocks not below B -/
theorem appB {B m : Nat} {W : World} {v x : Value} {ns ms : List Int} (h : OwnB B W v ns) (hB : B ≤ W.heap.size) (hx : Rd W x ms) (hb : ns.length + ms.length ≤ 140737488355328) (hm : (ns ++ ms).length = m) :
    ∃ (a : Option Addr) (c : Nat) (w' : World), (∀ ty, (Builtin.append_ #[32, 32] ty #[v, x]).run Tryz.prog W = .ok (.slice a m c) w') ∧ Aside (OwnB B w' (.slice a m c) (ns ++ ms) ∧ Keeps (fun k => B ≤ k) W w') := by
  obtain ⟨i, hi, hz0, hz1, hz2⟩ := info_parts u8info
  have hown' : W.ownsRow B 5 1 v (bv ns).length (bv ns) := by rw [bv_length]; exact h
  obtain ⟨v', w', run, o', g'⟩ := run_appendK (P := Tryz.prog) W B 32 5 i _ 1 Tryz.underlying32 hi hz0 hz1 hz2 rfl v (bv ns) hown' x (bv ms) hx.1 hx.2 (bv_one ms) (by rw [bv_length, bv_length]; omega) (by rw [bv_length, bv_length]; unfold maxLen; omega) hB
  have o2 : OwnB B w' v' (ns ++ ms) := by
    rw [← bv_append, bv_length] at o'
    exact o'
  obtain ⟨a, c, e⟩ := OwnB.shape o2
  rw [hm] at e
  subst e
  exact ⟨a, c, w', run, ⟨o2, (grown_keeps g').mono (fun k e _ => owns_base h k e)⟩⟩
structure Aw (w0 : World) (rb B D : Nat) (v : Value) (acc : List Int) (W : World) : Prop where
  r1 : Cells W rb 32 [.slice none 0 0]
  r2 : Cells W (rb + 1) 25 [.nilIface]
  ac : Cells W (rb + 1 + 1) 32 [v]
  row : OwnB B W v acc
  bel : Below w0.heap.size w0 W
  df : W.heap[D]? = some (.deferred (some []))
  sz : B ≤ W.heap.size
section
variable {w0 W W' : World} {rb B D : Nat} {v : Value} {acc : List Int} {S : Nat → Prop}
theorem Aw.later (g : Aw w0 rb B D v acc W) (hk : Keeps S W W') (h1 : ¬ S rb) (h2 : ¬ S (rb + 1)) (h3 : ¬ S (rb + 1 + 1)) (h4 : ¬ S D) (h5 : ∀ k, B ≤ k → ¬ S k) (hs : ∀ k, S k → k < W.heap.size → w0.heap.size ≤ k) : Aw w0 rb B D v acc W' :=
  ⟨g.r1.later hk h1, g.r2.later hk h2, g.ac.later hk h3, owns_later g.row hk (fun k hk' => h5 k (owns_base g.row k hk')), below_next g.bel hk g.bel.size hs, (hk.block D (Array.getElem?_eq_some_iff.1 g.df).1 h4).trans g.df, Nat.le_trans g.sz hk.size⟩
theorem Aw.quiet (g : Aw w0 rb B D v acc W) (hk : Keeps Nowhere W W') : Aw w0 rb B D v acc W' := g.later hk (fun x => x) (fun x => x) (fun x => x) (fun x => x) (fun _ _ x => x) (fun _ x _ => x.elim)
/-- behind the append and its store -/
theorem Aw.more {v' : Value} {acc' : List Int} (g : Aw w0 rb B D v acc W) (o : OwnB B W' v' acc') (hk : Keeps (fun k => B ≤ k) W W') (h1 : rb + 1 + 1 < B) (h2 : D < B) (h3 : rb + 1 + 1 < D) (h4 : w0.heap.size ≤ rb) : Aw w0 rb B D v' acc' (W'.setCell ⟨rb + 1 + 1, 0, none⟩ v') := by
  have K : Keeps (fun k => k = rb + 1 + 1) W' (W'.setCell ⟨rb + 1 + 1, 0, none⟩ v') := (Keeps.refl _ _).setCell _ _ (fun _ => rfl)
  have d1 := (hk.block D (Array.getElem?_eq_some_iff.1 g.df).1 (by omega)).trans g.df
  refine ⟨(g.r1.later hk (by omega)).later K (by omega), (g.r2.later hk (by omega)).later K (by omega), (g.ac.later hk (by omega)).setCell 0 v', owns_later o K (fun k hk' e => by have := owns_base o k hk'; omega), ?_, (K.block D (Array.getElem?_eq_some_iff.1 d1).1 (by omega)).trans d1, ?_⟩
  · exact below_next (below_next g.bel hk g.bel.size (fun k e _ => by omega)) K (Nat.le_trans g.bel.size hk.size) (fun k e _ => by have : k = rb + 1 + 1 := e; omega)
  · exact Nat.le_trans g.sz (Nat.le_trans hk.size K.size)
end
set_option maxRecDepth 20000 in
set_option maxHeartbeats 8000000 in
theorem assemble_at {A : Nat → Addr} (w : World) {T : List UInt8} {NS : List (List Int)} (hs : SentO A w) (hW : Words w) (hL : ∀ (i : Nat) (x : List UInt8), (Tp.spU 10 T)[i]? = some x → ∃ ms : List Int, NS[i]? = some ms ∧ Wr x ms) (hN : NS.length = (Tp.spU 10 T).length) (hT : T.length ≤ 140737488355328) (hB : NS.flatten.length ≤ 4398046511104) :
    Calls Tryz.prog 8 #[.string (str T)] w fun e w' => ∃ q n c, e = .returned (.tuple #[.slice q n c, .nilIface]) ∧ Aside (Rd w' (.slice q n c) NS.flatten) ∧ Aside (Below w.heap.size w w') := by
  refine (callsIn_wide (n := 9)).1 ?_
  refine callsIn_of_wp_marks Tryz.func8 rfl trivial ?_ rfl
  simp only [Tryz.ntmps8, List.size_toArray, List.length_cons, List.length_nil, Nat.reduceAdd, Nat.reduceSub, Array.replicate_succ, Array.replicate_zero, List.push_toArray, List.append_toArray, List.nil_append, List.cons_append]
  have SP : Aside (∀ W, Calls Tryz.prog 22 #[.string (str T), .string (str [10])] W fun e w' => ∃ b, e = .returned (.func (.func 62) #[] (itS b)) ∧ Aside (W.heap.size ≤ b ∧ SplW w' b T 10 ∧ Keeps Nowhere W w')) := ⟨fun W => splitSeqP_at W T 10⟩
  have HLL := Aside.mk hL
  have HN := Aside.mk hN
  have HT := Aside.mk hT
  have HBB := Aside.mk hB
  have HS := Aside.mk hs
  have HW := Aside.mk hW
  clear hL hN hT hB hs hW
  refine wpIn_wide.2 ?_
  go_upto_region 2 with fail
  obtain ⟨w1, hw1⟩ : ∃ w1, (((w.alloc (.cells #[.slice none 0 0] 32)).alloc (.cells #[.nilIface] 25)).alloc (.cells #[.slice none 0 0] 32)) = w1 := ⟨_, rfl⟩
  obtain ⟨rb, hrb⟩ : ∃ rb, w.heap.size = rb := ⟨_, rfl⟩
  have HRB := Aside.mk hrb
  have X1 : Aside (Cells w1 rb 32 [.slice none 0 0] ∧ Cells w1 (rb + 1) 25 [.nilIface] ∧ Cells w1 (rb + 1 + 1) 32 [.slice none 0 0] ∧ Below w.heap.size w w1 ∧ w1.heap.size = rb + 3) := ⟨by
    have C1 := Cells.new w 32 [.slice none 0 0]
    have C2 := Cells.new (w.alloc (.cells #[.slice none 0 0] 32)) 25 [.nilIface]
    have C3 := Cells.new ((w.alloc (.cells #[.slice none 0 0] 32)).alloc (.cells #[.nilIface] 25)) 32 [.slice none 0 0]
    rw [World.size_alloc] at C2
    rw [World.size_alloc, World.size_alloc] at C3
    rw [← hw1, ← hrb]
    exact ⟨C1.later (S := Nowhere) (((Keeps.refl _ _).alloc _).alloc _) (fun x => x), C2.later (S := Nowhere) ((Keeps.refl _ _).alloc _) (fun x => x), C3, ((alloc_below _ _).trans ((alloc_below _ _).mono (by simp))).trans ((alloc_below _ _).mono (by simp; omega)), by simp⟩⟩
  rw [hw1, hrb]
  clear hw1
  have SP1 := Aside.mk (SP.it w1)
  go_wp2_with (first | (go_at_call 22; refine SP1.it.mono ?_; rintro e w2 ⟨b, rfl, X2⟩) | fail)
  have HB2 := Aside.mk X2.it.1
  have SW2 := Aside.mk X2.it.2.1
  have K2 := Aside.mk X2.it.2.2
  have hbl := SW2.it.k.lt
  have hsz := X1.it.2.2.2.2
  have hb1 := HB2.it
  refine (wpIn_wide (n := 9)).1 ?_
  refine range_outer2 (b := b) (K := fun k => k = b ∨ k = b + 1 ∨ k = b + 1 + 1) (L := Tp.spU 10 T) (encs := encT) (Wk := fun W => SplW W b T 10) (gf := 62) (lb := itS b) rfl (enters_of Tryz.func62 (by kernel_rfl) rfl) (split_hands 8 b T 10 HT.it) (fun _ => rfl)
    (fun pre W => ∃ q n c, Aw w rb (w2.heap.size + 2) w2.heap.size (.slice q n c) (NS.take pre.length).flatten W)
    (fun _ _ _ => False) ?h0 ?hq ?hw (by omega) (fun k hk => by omega) ?hp (fun _ _ _ _ _ h _ => h) ?a1 ?assign ?body ?done (fun _ _ _ _ h => h.elim)
  case h0 =>
    intro r
    have k3 : Keeps Nowhere w1 ((w2.alloc (.deferred (some []))).alloc (.loop r)) := (K2.it.alloc _).alloc _
    have h1 := World.alloc_heap_new w2 (.deferred (some []))
    exact ⟨none, 0, 0, X1.it.1.later k3 (fun x => x), X1.it.2.1.later k3 (fun x => x), X1.it.2.2.1.later k3 (fun x => x), ⟨rfl, .inl ⟨rfl, rfl⟩⟩, X1.it.2.2.2.1.trans (k3.bel.mono X1.it.2.2.2.1.size), (((Keeps.refl Nowhere _).alloc (.loop r)).block _ (Array.getElem?_eq_some_iff.1 h1).1 (fun x => x)).trans h1, by simp⟩
  case hq =>
    rintro pre A B ⟨q, n, c, g⟩ hk
    exact ⟨q, n, c, g.later hk (by omega) (by omega) (by omega) (by omega) (fun k h e => by have : k = b := e; omega) (fun k e _ => by have := HRB.it; omega)⟩
  case hw =>
    intro r
    have k3 : Keeps Nowhere w2 ((w2.alloc (.deferred (some []))).alloc (.loop r)) := ((Keeps.refl _ _).alloc _).alloc _
    exact ⟨SW2.it.s.later k3 (fun x => x), SW2.it.c.later k3 (fun x => x), SW2.it.k.later k3 (fun x => x)⟩
  case hp =>
    rintro pre A r r' ⟨q, n, c, g⟩ hl
    exact ⟨q, n, c, g.later (putObj_keepsT A (w2.heap.size + 1) (.loop r')) (by omega) (by omega) (by omega) (by omega) (fun k h e => by have : k = w2.heap.size + 1 := e; omega) (fun k e _ => by have := HRB.it; omega)⟩
  case assign =>
    intro x W K hK
    gi_wp2
    exact hK
  case body =>
    rintro pre x W rec ⟨q, n, c, g⟩ hpre hx hrec
    obtain ⟨ms, hms, hwr⟩ := HLL.it _ _ hx
    have e3 : w.heap.size ≤ rb := by rw [HRB.it]; exact Nat.le_refl _
    have WR := Aside.mk (written_at W (HS.it.later g.bel) (HW.it.later g.bel) hwr)
    have HLEN : Aside ((NS.take pre.length).flatten.length + ms.length ≤ 4398046511104 ∧ (NS.take (pre ++ [x]).length).flatten = (NS.take pre.length).flatten ++ ms) := ⟨by
      have e1 : NS.take (pre.length + 1) = NS.take pre.length ++ [ms] := by rw [List.take_add_one, hms]; rfl
      have e2 : (NS.take (pre.length + 1)).flatten = (NS.take pre.length).flatten ++ ms := by rw [e1, List.flatten_append]; simp
      have e4 : NS.flatten = (NS.take (pre.length + 1)).flatten ++ (NS.drop (pre.length + 1)).flatten := by rw [← List.flatten_append, List.take_append_drop]
      have h1 := HBB.it
      rw [e4, e2, List.length_append, List.length_append] at h1
      exact ⟨by omega, by rw [List.length_append]; exact e2⟩⟩
    have G := Aside.mk g
    have HREC := Aside.mk hrec
    have HPX := Aside.mk (show (pre ++ [x]).length = (pre ++ [x]).length from rfl)
    clear hms hwr g hrec hx hpre
    gi_wp2_with fail
    refine ⟨trivial, CallsIn.inRound _ (callsIn_wide.2 (WR.it.mono ?_))⟩
    rintro e W2 ⟨wq, wn, wc, rfl, R2, B2⟩
    have K3 : Aside (Keeps Nowhere W W2) := ⟨Keeps.ofBelow B2.it⟩
    have G2 := Aside.mk (G.it.quiet K3.it)
    have f1 := G2.it.ac.frozen 0
    have c1 : W2.cell? ⟨rb + 1 + 1, 0, none⟩ = some (.slice q n c) := by rw [G2.it.ac.cell]; rfl
    obtain ⟨m3, hm3⟩ : ∃ m, ((NS.take pre.length).flatten ++ ms).length = m := ⟨_, rfl⟩
    obtain ⟨a3, c3, w3, run3, N3⟩ := appB G2.it.row G2.it.sz R2.it (by have := HLEN.it.1; omega) hm3
    clear hm3
    have C3 := Aside.mk (G2.it.ac.later N3.it.2 (by omega))
    have f3 := C3.it.frozen 0
    have c3' : w3.cell? ⟨rb + 1 + 1, 0, none⟩ = some (.slice q n c) := by rw [C3.it.cell]; rfl
    gi_wp2_with fail
    have GF := G2.it.more N3.it.1 N3.it.2 (by omega) (by omega) (by omega) e3
    have KE : Keeps (fun k => w2.heap.size + 2 ≤ k ∨ k = rb + 1 + 1) W (w3.setCell ⟨rb + 1 + 1, 0, none⟩ (.slice a3 m3 c3)) := ((K3.it.mono (fun _ e _ => e.elim)).trans (N3.it.2.mono (fun _ e _ => .inl e))).setCell _ _ (fun _ => .inr rfl)
    have LT := (Array.getElem?_eq_some_iff.1 HREC.it).1
    refine ⟨⟨KE.block _ LT (by omega), fun k hk => KE.block k (by omega) (by omega)⟩, a3, m3, c3, ?_⟩
    rw [HLEN.it.2]
    exact GF
  case done =>
    rintro W ⟨q, n, c, g⟩
    rw [← HN.it, List.take_of_length_le (Nat.le_refl _)] at g
    have e0 : w2.heap.size ≠ rb := by omega
    have e1 : w2.heap.size ≠ rb + 1 := by omega
    have G := Aside.mk g
    have ca : W.cell? ⟨rb + 1 + 1, 0, none⟩ = some (.slice q n c) := by rw [g.ac.cell]; rfl
    have c0 : W.cell? ⟨rb, 0, none⟩ = some (.slice none 0 0) := by rw [g.r1.cell]; rfl
    have c1 : W.cell? ⟨rb + 1, 0, none⟩ = some .nilIface := by rw [g.r2.cell]; rfl
    have f0 := g.r1.frozen 0
    have f1 := g.r2.frozen 0
    clear g
    gi_wp2_with fail
    go_wp2_with fail
    have kA : Keeps (fun k => k = rb) W (W.setCell ⟨rb, 0, none⟩ (.slice q n c)) := (Keeps.refl _ _).setCell _ _ (fun _ => rfl)
    have cA := G.it.r1.setCell 0 (.slice q n c)
    have cB := G.it.r2.later kA (by omega)
    have dA := (kA.block _ (Array.getElem?_eq_some_iff.1 G.it.df).1 e0).trans G.it.df
    have rA := G.it.row.rd.keep kA (fun g hg e => by have := owns_base G.it.row g hg; have : g = rb := e; omega)
    have bA := below_next G.it.bel kA G.it.bel.size (fun k e _ => by have : k = rb := e; have := HRB.it; omega)
    have zA := Nat.le_trans G.it.sz kA.size
    have nb : ∀ g, (Value.slice q n c).ownBlock = some g → w2.heap.size + 2 ≤ g := owns_base G.it.row
    generalize W.setCell ⟨rb, 0, none⟩ (.slice q n c) = WA at kA cA cB dA rA bA zA ⊢
    have kB : Keeps (fun k => k = rb + 1) WA (WA.setCell ⟨rb + 1, 0, none⟩ .nilIface) := (Keeps.refl _ _).setCell _ _ (fun _ => rfl)
    have cA2 := cA.later kB (by omega)
    have cB2 := cB.setCell 0 .nilIface
    have dB := (kB.block _ (Array.getElem?_eq_some_iff.1 dA).1 e1).trans dA
    have rB := rA.keep kB (fun g hg e => by have := nb g hg; have : g = rb + 1 := e; omega)
    have bB := below_next bA kB bA.size (fun k e _ => by have : k = rb + 1 := e; have := HRB.it; omega)
    have zB := Nat.le_trans zA kB.size
    generalize WA.setCell ⟨rb + 1, 0, none⟩ .nilIface = WB at kB cA2 cB2 dB rB bB zB ⊢
    have kp := putObj_keepsT WB w2.heap.size (.deferred none)
    have z0 := (cA2.later kp (Ne.symm e0)).cell 0
    have z1 := (cB2.later kp (Ne.symm e1)).cell 0
    simp only [List.getElem?_cons_zero, List.set_cons_zero] at z0 z1
    have rC := rB.keep kp (fun g hg e => by have := nb g hg; have : g = w2.heap.size := e; omega)
    have bC := below_next bB kp bB.size (fun k e _ => by have : k = w2.heap.size := e; have := HRB.it; omega)
    refine ⟨by simp, .inl ⟨_, _, rfl, run_takeDeferred dB, ?_⟩⟩
    refine ⟨.tuple #[.slice q n c, .nilIface], ?_, _, _, _, rfl, ⟨rC⟩, ⟨bC⟩⟩
    clear kA cA cB dA rA bA zA kB cA2 cB2 dB rB bB zB rC bC kp
    simp [results, Tryz.f8, go_sem, z0, z1]
end Go.Proofs.YtbbldkldgjmmgaaGreatDoor


/-
  package tap: parts, Parse, of a frame's line
-/
import Derived.Test.YtjhkbkbofbjoeabGreatDoorTTpG
import Derived.Test.YtjhkbkbofbjoeabGreatDoorTTpL
namespace Go.Proofs.YtjhkbkbofbjoeabGreatDoor
open Go.RowKit Go.Maps
attribute [-go_sem] run_index_string

theorem idx_pre {c : UInt8} : ∀ {p r : List UInt8}, c ∉ p → Lib.indexByte (p ++ c :: r) c = p.length
  | [], r, _ => by simp [Lib.indexByte]
  | x :: p, r, h => by
    have hx : (x == c) = false := by rw [beq_eq_false_iff_ne]; intro e; exact h (by simp [e])
    have ih := idx_pre (c := c) (p := p) (r := r) (fun hm => h (List.mem_cons_of_mem x hm))
    rw [List.cons_append, Lib.indexByte, hx, ih]
    have h1 : ((p.length : Int) == -1) = false := by rw [beq_eq_false_iff_ne]; omega
    rw [h1]
    simp
theorem last_at {T D : List UInt8} (h : (32 : UInt8) ∉ D) : Lib.lastIndexByte (str (T ++ 32 :: D)) 32 = T.length := by
  have sz : (str (T ++ 32 :: D)).size = T.length + 1 + D.length := by rw [str_size]; simp; omega
  have gt : ∀ j : Nat, (str (T ++ 32 :: D)).data[j]! = ((T ++ 32 :: D)[j]?).getD (default : UInt8) := fun j => by
    show (T ++ 32 :: D).toArray[j]! = _
    rw [List.getElem!_toArray, List.getElem!_eq_getElem?_getD]
  rcases Lib.lastIndexByte_spec (str (T ++ 32 :: D)) 32 with ⟨_, hn⟩ | ⟨i, hi, e, hc, hn⟩
  · exact absurd (by rw [gt, List.getElem?_append_right (Nat.le_refl _), Nat.sub_self]; rfl) (hn T.length (by omega))
  · rw [e]
    rcases Nat.lt_trichotomy i T.length with h1 | h1 | h1
    · exact absurd (by rw [gt, List.getElem?_append_right (Nat.le_refl _), Nat.sub_self]; rfl) (hn T.length h1 (by omega))
    · rw [h1]
    · exfalso
      rw [gt, List.getElem?_append_right (by omega)] at hc
      obtain ⟨k, hk⟩ : ∃ k, i - T.length = k + 1 := ⟨i - T.length - 1, by omega⟩
      rw [hk, List.getElem?_cons_succ] at hc
      have hlt : k < D.length := by omega
      rw [List.getElem?_eq_getElem hlt] at hc
      simp only [Option.getD_some] at hc
      have : D[k] = 32 := UInt8.toNat_inj.1 (by simpa using (by omega : (D[k]).toNat = 32))
      exact h (by rw [← this]; exact List.getElem_mem hlt)
set_option maxRecDepth 20000 in
theorem cutL_at (w : World) {p r : List UInt8} (h : (32 : UInt8) ∉ p) (hl : (p ++ 32 :: r).length ≤ 140737488355328) : Calls Tryz.prog 57 #[.string (str (p ++ 32 :: r)), .string (str [32])] w fun e w' => e = .returned (.tuple #[.string (str p), .string (str r), .bool true]) ∧ Aside (Below w.heap.size w w') := by
  have IX := Aside.mk (Tryz.stringslite_Index_one (str (p ++ 32 :: r)) 32 w)
  rw [show (str (p ++ 32 :: r)).data.toList = p ++ 32 :: r from by simp, idx_pre h] at IX
  have S1 : ∀ W, (Instr.slice 9 (.string (str (p ++ 32 :: r))) none (some (.int .i64 p.length)) none).run Tryz.prog W = .ok (.string (str p)) W := fun W => by
    have := s_upto (T := p ++ 32 :: r) (b := p.length) (by simp) W
    rwa [List.take_left'] at this
    rfl
  have S2 : ∀ W, (Instr.slice 9 (.string (str (p ++ 32 :: r))) (some (.int .i64 ((p.length : Int) + 1))) none none).run Tryz.prog W = .ok (.string (str r)) W := fun W => by
    have := s_from (T := p ++ 32 :: r) (a := p.length + 1) (by simp) W
    rw [show ((p.length + 1 : Nat) : Int) = (p.length : Int) + 1 by omega] at this
    rw [this]
    congr 2
    simp [List.drop_append]
  have hp : (p.length : Int) ≤ 140737488355328 := by simp at hl; omega
  have h1 : (str [32]).size = 1 := by rw [str_size]; rfl
  generalize str (p ++ 32 :: r) = S at IX S1 S2 ⊢
  generalize p.length = n at IX S1 S2 hp
  clear h hl
  go_enter Tryz.func57, Tryz.ntmps57
  go_wp2_with (first | (go_at_call 80; refine IX.it.mono ?_; rintro e w1 ⟨rfl, rfl⟩) | fail)
  go_quiet (fail)
  go_wp2_with fail
  refine bodyPost_ret (results_tmp3 rfl _ _ _) rfl ?_
  exact ⟨rfl, ⟨⟨rfl, rfl, rfl, Nat.le_refl _, fun _ _ => rfl⟩⟩⟩
theorem cut_at (w : World) {p r : List UInt8} (h : (32 : UInt8) ∉ p) (hl : (p ++ 32 :: r).length ≤ 140737488355328) : Calls Tryz.prog 34 #[.string (str (p ++ 32 :: r)), .string (str [32])] w fun e w' => e = .returned (.tuple #[.string (str p), .string (str r), .bool true]) ∧ Aside (Below w.heap.size w w') := by
  have C := Aside.mk (cutL_at w h hl)
  generalize str (p ++ 32 :: r) = S at C ⊢
  generalize str [32] = S2 at C ⊢
  clear h hl
  go_enter Tryz.func34, Tryz.ntmps34
  go_wp2_with (first | (go_at_call 57; refine C.it.mono ?_; rintro e w1 ⟨rfl, B1⟩) | fail)
  refine bodyPost_ret (results_tmp3 rfl _ _ _) rfl ?_
  exact ⟨rfl, B1⟩
theorem begins_at (w : World) {x : List UInt8} (h : x = [100, 97, 116, 97] ∨ x = [119, 105, 110, 100, 111, 119] ∨ x = [112, 105, 110, 103] ∨ x = [97, 119, 97, 121] ∨ x = [116, 121, 112, 101]) : Calls Tryz.prog 35 #[.string (str x)] w fun e w' => e = .returned (.bool true) ∧ w' = w := by
  rcases h with rfl | rfl | rfl | rfl | rfl
  all_goals
    go_enter Tryz.func35, Tryz.ntmps35
    go_wp2
    go_ret
    exact ⟨rfl, rfl⟩
theorem parts_no (w : World) (S : ByteArray) : Calls Tryz.prog 36 #[.string S, .bool false] w fun e w' => e = .returned (.tuple #[.string S, .slice none 0 0, .nilIface]) ∧ w' = w := by
  go_enter Tryz.func36, Tryz.ntmps36
  go_wp2_with fail
  refine bodyPost_ret (results_tmp3 rfl _ _ _) rfl ?_
  exact ⟨rfl, rfl⟩
theorem tb_nb {ns : List Int} (hb : AreBytes ns) : (32 : UInt8) ∉ tb ns := fun h => by
  have := Tp.un_mem (P := fun x => 32 < x ∧ x < 127) (Tp.told_nb (b := nat ns) (fun c hc => by
    obtain ⟨z, hz, rfl⟩ := List.mem_map.1 hc
    have := hb z hz
    omega)) (fun x h => by omega) 32 h
  exact absurd this.1 (by decide)
set_option maxRecDepth 20000 in
theorem parts_at (w : World) {T : List UInt8} {ns : List Int} (hb : AreBytes ns) (hl : ns.length ≤ 4398046511104) (hT : T.length ≤ 100000) : Calls Tryz.prog 36 #[.string (str (T ++ 32 :: tb ns)), .bool true] w fun e w' => ∃ q c, e = .returned (.tuple #[.string (str T), .slice q ns.length c, .nilIface]) ∧ Aside (OwnB w.heap.size w' (.slice q ns.length c) ns) ∧ Aside (Below w.heap.size w w') := by
  have hD := tb_le ns
  have LA := Aside.mk (Tryz.strings_LastIndexByte (str (T ++ 32 :: tb ns)) 32 (by rw [str_size]; simp; omega) w)
  rw [last_at (tb_nb hb)] at LA
  have RD := Aside.mk (sread_at w hb hl)
  have S1 : ∀ W, (Instr.slice 9 (.string (str (T ++ 32 :: tb ns))) (some (.int .i64 ((T.length : Int) + 1))) none none).run Tryz.prog W = .ok (.string (str (tb ns))) W := fun W => by
    have := s_from (T := T ++ 32 :: tb ns) (a := T.length + 1) (by simp) W
    rw [show ((T.length + 1 : Nat) : Int) = (T.length : Int) + 1 by omega] at this
    rw [this]
    congr 2
    simp [List.drop_append]
  have S2 : ∀ W, (Instr.slice 9 (.string (str (T ++ 32 :: tb ns))) none (some (.int .i64 T.length)) none).run Tryz.prog W = .ok (.string (str T)) W := fun W => by
    have := s_upto (T := T ++ 32 :: tb ns) (b := T.length) (by simp) W
    rwa [List.take_left'] at this
    rfl
  have hn : (T.length : Int) ≤ 100000 := by omega
  generalize ns.length = m at RD
  generalize str (T ++ 32 :: tb ns) = S at LA S1 S2 ⊢
  generalize T.length = n at LA S1 S2 hn
  clear hb hl hT hD
  go_enter Tryz.func36, Tryz.ntmps36
  go_wp2_with (first
    | (go_at_call 58; refine LA.it.mono ?_; rintro e w1 ⟨rfl, rfl⟩)
    | (go_at_call 59; refine RD.it.mono ?_; rintro e w2 ⟨q, c, rfl, O2, B2⟩)
    | fail)
  refine bodyPost_ret (results_tmp3 rfl _ _ _) rfl ?_
  exact ⟨_, _, rfl, O2, B2⟩
end Go.Proofs.YtjhkbkbofbjoeabGreatDoor

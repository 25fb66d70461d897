/-
  package script: guess, Read, of the text of a byte list
-/
import Derived.Test.YtbbldkldgjmmgaaGreatDoorTTpU
import Derived.Test.YtbbldkldgjmmgaaGreatDoorMkB
namespace Go.Proofs.YtbbldkldgjmmgaaGreatDoor
open Go.RowKit Go.Maps
attribute [-go_sem] run_index_string
attribute [-go_sem] Builtin.append_

section
variable {w w' W : World} {v x : Value} {ns ms : List Int}
/-- a row of bytes that is new since w, or none -/
structure Ny (w W : World) (v : Value) (ns : List Int) : Prop where
  row : OwnB w.heap.size W v ns
  k : Keeps Nowhere w W
theorem appRun {m : Nat} (h : OwnB w.heap.size W v ns) (hk : Keeps Nowhere w W) (hx : Rd W x ms) (hb : ns.length + ms.length ≤ 140737488355328) (hm : (ns ++ ms).length = m) : ∃ (a : Option Addr) (c : Nat) (w' : World), (∀ ty, (Builtin.append_ #[32, 32] ty #[v, x]).run Tryz.prog W = .ok (.slice a m c) w') ∧ Aside (Ny w w' (.slice a m c) (ns ++ ms)) := by
  obtain ⟨i, hi, hz0, hz1, hz2⟩ := info_parts u8info
  have hown' : W.ownsRow w.heap.size 5 1 v (bv ns).length (bv ns) := by rw [bv_length]; exact h
  obtain ⟨v', w', run, o', g'⟩ := run_appendK (P := Tryz.prog) W w.heap.size 32 5 i _ 1 Tryz.underlying32 hi hz0 hz1 hz2 rfl v (bv ns) hown' x (bv ms) hx.1 hx.2 (bv_one ms) (by rw [bv_length, bv_length]; omega) (by rw [bv_length, bv_length]; unfold maxLen; omega) hk.size
  have o2 : OwnB w.heap.size w' v' (ns ++ ms) := by
    rw [← bv_append, bv_length] at o'
    exact o'
  obtain ⟨a, c, e⟩ := OwnB.shape o2
  rw [hm] at e
  subst e
  exact ⟨a, c, w', run, ⟨o2, hk.next (grown_keeps g') (fun b hb hlt => by have := owns_base h b hb; omega)⟩⟩
/-- append(v, c) -/
theorem appOne {m : Nat} (c : Int) (h : Ny w W v ns) (hb : ns.length + 1 ≤ 140737488355328) (hm : ns.length + 1 = m) : ∃ (a : Option Addr) (cp : Nat) (w' : World), (∀ ty, (Builtin.append_ #[32, 32] ty #[v, .slice (some ⟨W.heap.size, 0, none⟩) 1 1]).run Tryz.prog (W.alloc (.cells #[.int .u8 c] 5)) = .ok (.slice a m cp) w') ∧ Aside (Ny w w' (.slice a m cp) (ns ++ [c])) := by
  have K : Keeps Nowhere W (W.alloc (.cells #[.int .u8 c] 5)) := (Keeps.refl _ _).alloc _
  exact appRun (OwnB.later h.row K.bel) (h.k.trans K) (rd_mk (r := [c]) rfl (Nat.le_refl _) (fun k u hk => by
    cases k with
    | zero => simp [bv] at hk; subst hk; exact (Cells.new W 5 [.int .u8 c]).cell 0
    | succ k => simp [bv] at hk)) (by simp; omega) (by simpa using hm)
end
theorem owns_rebase0 {w : World} {B : Nat} {v' : Value} {ms : List Int} (o : w.ownsRow 0 5 1 v' ms.length (bv ms)) (hb : ∀ b, v'.ownBlock = some b → B ≤ b) : OwnB B w v' ms := by
  refine ⟨o.1, ?_⟩
  rcases o.2 with h0 | ⟨g, cap, cur, rfl, _, rest⟩
  · exact .inl h0
  · exact .inr ⟨g, cap, cur, rfl, hb g rfl, rest⟩
theorem s_idx {T : List UInt8} {i : Nat} {c : UInt8} (h : T[i]? = some c) (W : World) : (Instr.index 9 (.string (str T)) (.int .i64 i)).run Tryz.prog W = .ok (.int .u8 (c.toNat : Nat)) W := by
  obtain ⟨hi, e⟩ := List.getElem?_eq_some_iff.1 h
  rw [run_index_string W 9 (str T) .i64 i Tryz.underlying9, dif_pos (by rw [str_size]; omega)]
  have e2 : ∀ hp, ((str T)[(i : Int).toNat]'hp).toNat = c.toNat := fun hp => by
    subst e
    simp [ByteArray.getElem_eq_getElem_data]
  rw [e2]
theorem s_slice {T : List UInt8} {a b : Nat} (h1 : a ≤ b) (h2 : b ≤ T.length) (W : World) : (Instr.slice 9 (.string (str T)) (some (.int .i64 a)) (some (.int .i64 b)) none).run Tryz.prog W = .ok (.string (str ((T.drop a).take (b - a)))) W := by
  rw [run_slice_string W 9 (str T) .i64 .i64 a b Tryz.underlying9 (by omega) (by omega) (by rw [str_size]; omega)]
  congr 2
  simpa using Go.ByteArray.extract_mk T a b
theorem s_from {T : List UInt8} {a : Nat} (h1 : a ≤ T.length) (W : World) : (Instr.slice 9 (.string (str T)) (some (.int .i64 a)) none none).run Tryz.prog W = .ok (.string (str (T.drop a))) W := by
  have e : (str T).extract a T.length = str (T.drop a) := by
    apply ByteArray.ext
    rw [ByteArray.data_extract]
    simp
    exact List.take_of_length_le (by simp)
  simp [Instr.slice, run_underlying Tryz.underlying9, Instr.sliceBounds, go_sem, h1, e]
theorem tb_le (ns : List Int) : (tb ns).length ≤ 3 * ns.length + 1 := by
  unfold tb
  rw [Tp.un_len]
  have := Tp.told_len (nat ns)
  unfold nat at this ⊢
  rwa [List.length_map] at this
/-- where the k-th byte's text begins -/
def posT (ns : List Int) (k : Nat) : Nat := (Tp.flatU (nat (ns.take k))).length
theorem flat_at {ns : List Int} {k : Nat} {c : Int} (h : ns[k]? = some c) : Tp.flatU (nat ns) = Tp.flatU (nat (ns.take k)) ++ (Tp.tellU c.toNat ++ Tp.flatU (nat (ns.drop (k + 1)))) := by
  obtain ⟨hi, e⟩ := List.getElem?_eq_some_iff.1 h
  have e1 : ns = ns.take k ++ (c :: ns.drop (k + 1)) := by
    have := List.take_append_drop k ns
    rw [List.drop_eq_getElem_cons hi, e] at this
    exact this.symm
  conv => lhs; rw [e1]
  unfold nat Tp.flatU
  rw [List.map_append, List.flatMap_append, List.map_cons, List.flatMap_cons]
theorem posT_succ {ns : List Int} {k : Nat} {c : Int} (h : ns[k]? = some c) : posT ns (k + 1) = posT ns k + (Tp.tellU c.toNat).length := by
  unfold posT
  have e : nat (ns.take (k + 1)) = nat (ns.take k) ++ [c.toNat] := by unfold nat; rw [List.take_add_one, h]; simp
  rw [e, Tp.flatU, List.flatMap_append, List.length_append, List.flatMap_cons, List.flatMap_nil, List.append_nil]
  rfl
theorem tb_get {ns : List Int} {k m : Nat} {c : Int} {y : Nat} (h0 : ns ≠ []) (h : ns[k]? = some c) (hy : (Tp.tellU c.toNat)[m]? = some y) : (tb ns)[posT ns k + m]? = some (UInt8.ofNat y) := by
  have hn : nat ns ≠ [] := by unfold nat; simpa using h0
  unfold tb Tp.toldU Tp.un posT
  rw [if_neg hn, flat_at h, List.getElem?_map, List.getElem?_append_right (by omega), show ∀ a b : Nat, a + b - a = b by omega, List.getElem?_append_left (List.getElem?_eq_some_iff.1 hy).1, hy]
  rfl
theorem tb_room {ns : List Int} {k : Nat} {c : Int} (h0 : ns ≠ []) (h : ns[k]? = some c) : posT ns k + (Tp.tellU c.toNat).length ≤ (tb ns).length := by
  have hn : nat ns ≠ [] := by unfold nat; simpa using h0
  unfold tb Tp.toldU
  rw [Tp.un_len, if_neg hn, flat_at h]
  unfold posT
  simp
theorem posT_all {ns : List Int} (h0 : ns ≠ []) : posT ns ns.length = (tb ns).length := by
  have hn : nat ns ≠ [] := by unfold nat; simpa using h0
  unfold tb Tp.toldU posT
  rw [Tp.un_len, if_neg hn, List.take_of_length_le (Nat.le_refl _)]
theorem posT_zero (ns : List Int) : posT ns 0 = 0 := by unfold posT nat Tp.flatU; simp
theorem two_at {T : List UInt8} {p : Nat} {a b : UInt8} (ha : T[p]? = some a) (hb : T[p + 1]? = some b) : (T.drop p).take 2 = [a, b] := by
  obtain ⟨h1, e1⟩ := List.getElem?_eq_some_iff.1 ha
  obtain ⟨h2, e2⟩ := List.getElem?_eq_some_iff.1 hb
  rw [List.drop_eq_getElem_cons h1, e1, List.take_succ_cons, List.drop_eq_getElem_cons h2, e2, List.take_succ_cons]
  rfl
set_option maxRecDepth 20000 in
set_option maxHeartbeats 4000000 in
theorem sguess_one (w : World) : Calls Tryz.prog 72 #[.string (str [37])] w fun e w' => ∃ q c, e = .returned (.slice q 0 c) ∧ Aside (OwnB w.heap.size w' (.slice q 0 c) []) ∧ Aside (Below w.heap.size w w') := by
  obtain ⟨w1, c1, run1, M1⟩ := make_bytes w 1 0 (fun _ => 0) (by decide)
  have R1 : Aside (OwnB w.heap.size w1 (.slice (some ⟨w.heap.size, 0, none⟩) 0 c1) []) := ⟨by
    have o := M1.it.1.1
    exact owns_rebase0 o (fun b hb => by simp only [Value.ownBlock, Option.some.injEq] at hb; omega)⟩
  have K1 := Aside.mk M1.it.2
  have I0 : ∀ W, (Instr.index 9 (.string (str [37])) (.int .i64 0)).run Tryz.prog W = .ok (.int .u8 37) W := s_idx (T := [37]) (i := 0) rfl
  have hsz : (str [37]).size = 1 := by rw [str_size]; rfl
  obtain ⟨S, hS⟩ : ∃ S, str [37] = S := ⟨_, rfl⟩
  rw [hS] at I0 hsz ⊢
  clear hS M1
  go_enter Tryz.func72, Tryz.ntmps72
  go_upto_region 2 with (first | (refine wpList_make0 rfl (.tmp 8) 32 rfl 1 rfl w1 _ run1.it ?_) | fail)
  clear run1
  go_upto_region 3 with fail
  go_loopw [3, 4, 5, 6] (fun bv iv _ _ wr => ∃ (q : Option Addr) (c j : Nat), bv = .slice q 0 c ∧ iv = .int .i64 j ∧ j ≤ 1 ∧ Aside (OwnB w.heap.size wr (.slice q 0 c) [] ∧ Keeps Nowhere w wr)) (fun _ iv _ _ _ => 1 - natOfU iv)
  case atStart => exact ⟨_, _, 0, rfl, rfl, by decide, ⟨R1.it, K1.it⟩⟩
  case round =>
    obtain ⟨q, c, j, rfl, rfl, hj, HR⟩ := hrel
    rcases Nat.eq_or_lt_of_le hj with rfl | hlt
    · go_wp2_with fail
      go_ret
      exact ⟨_, _, rfl, ⟨HR.it.1⟩, ⟨HR.it.2.bel⟩⟩
    · have : j = 0 := by omega
      subst this
      go_wp2_with fail
      go_roundw
      case rel => exact ⟨q, c, 1, rfl, by rfl, by decide, HR⟩
      case measure => simp [natOfU]
set_option maxRecDepth 20000 in
set_option maxHeartbeats 8000000 in
theorem sguess_at (w : World) {ns : List Int} (h0 : ns ≠ []) (hb : AreBytes ns) (hl : ns.length ≤ 4398046511104) : Calls Tryz.prog 72 #[.string (str (tb ns))] w fun e w' => ∃ q c, e = .returned (.slice q ns.length c) ∧ Aside (OwnB w.heap.size w' (.slice q ns.length c) ns) ∧ Aside (Below w.heap.size w w') := by
  obtain ⟨N, hN⟩ : ∃ N, (tb ns).length = N := ⟨_, rfl⟩
  obtain ⟨n, hn⟩ : ∃ n, ns.length = n := ⟨_, rfl⟩
  have HN := Aside.mk hn
  have hNl : N ≤ 13194139533400 := by have := tb_le ns; omega
  have hNi : (N : Int) ≤ 13194139533400 := by omega
  obtain ⟨w1, c1, run1, M1⟩ := make_bytes w N 0 (fun _ => 0) (by omega)
  have R1 : Aside (OwnB w.heap.size w1 (.slice (some ⟨w.heap.size, 0, none⟩) 0 c1) []) := ⟨by
    have o := M1.it.1.1
    exact owns_rebase0 o (fun b hb => by simp only [Value.ownBlock, Option.some.injEq] at hb; omega)⟩
  have K1 := Aside.mk M1.it.2
  have IDX : Aside (∀ (k m : Nat) (c : Int) (y : Nat), ns[k]? = some c → (Tp.tellU c.toNat)[m]? = some y → y < 256 → ∀ W, (Instr.index 9 (.string (str (tb ns))) (.int .i64 ((posT ns k + m : Nat) : Int))).run Tryz.prog W = .ok (.int .u8 (y : Nat)) W) := ⟨fun k m c y hk hy hy2 W => by
    have := s_idx (tb_get h0 hk hy) W
    rwa [UInt8.toNat_ofNat', Nat.mod_eq_of_lt hy2] at this⟩
  have SLC : Aside (∀ (k : Nat) (c : Int) (a b : Nat), ns[k]? = some c → Tp.tellU c.toNat = [37, a, b] → ∀ W, (Instr.slice 9 (.string (str (tb ns))) (some (.int .i64 ((posT ns k + 1 : Nat) : Int))) (some (.int .i64 ((posT ns k + 3 : Nat) : Int))) none).run Tryz.prog W = .ok (.string (str (Tp.un [a, b]))) W) := ⟨fun k c a b hk ht W => by
    have hr := tb_room h0 hk
    rw [ht] at hr
    have e := s_slice (T := tb ns) (a := posT ns k + 1) (b := posT ns k + 3) (by omega) (by simpa using hr) W
    rw [e, show posT ns k + 3 - (posT ns k + 1) = 2 by omega]
    rw [two_at (tb_get (m := 1) h0 hk (by rw [ht]; rfl)) (tb_get (m := 2) h0 hk (by rw [ht]; rfl))]
    rfl⟩
  have RM : Aside (∀ k c, ns[k]? = some c → posT ns k + (Tp.tellU c.toNat).length ≤ N ∧ posT ns (k + 1) = posT ns k + (Tp.tellU c.toNat).length) := ⟨fun k c h => ⟨by rw [← hN]; exact tb_room h0 h, posT_succ h⟩⟩
  have FI : Aside (posT ns n = N) := ⟨by rw [← hn, posT_all h0, hN]⟩
  have P0 : Aside (posT ns 0 = 0) := ⟨posT_zero ns⟩
  have hsz : (str (tb ns)).size = N := by rw [str_size, hN]
  obtain ⟨S, hS⟩ : ∃ S, str (tb ns) = S := ⟨_, rfl⟩
  rw [hS] at hsz IDX SLC ⊢
  have HB := Aside.mk hb
  rw [hn] at hl ⊢
  clear hS M1 hb hn h0 hN
  go_enter Tryz.func72, Tryz.ntmps72
  go_upto_region 2 with (first | (refine wpList_make0 rfl (.tmp 8) 32 rfl N rfl w1 _ run1.it ?_) | fail)
  clear run1
  go_upto_region 3 with fail
  go_loopw [3, 4] (fun bv iv wr => ∃ (q : Option Addr) (c k j : Nat), bv = .slice q k c ∧ iv = .int .i64 j ∧ k ≤ n ∧ Aside (j = posT ns k) ∧ j ≤ N ∧ Aside (Ny w wr (.slice q k c) (ns.take k))) (fun _ iv _ => N - natOfU iv)
  case atStart => exact ⟨_, _, 0, 0, rfl, rfl, Nat.zero_le _, ⟨P0.it.symm⟩, Nat.zero_le _, ⟨R1.it, K1.it⟩⟩
  case round =>
    obtain ⟨q, cp, k, j, rfl, rfl, hk, HJ, hj, NY⟩ := hrel
    have hji : (j : Int) ≤ 13194139533400 := by omega
    rcases Nat.eq_or_lt_of_le hk with rfl | hlt
    · have : j = N := by rw [HJ.it]; exact FI.it
      subst this
      go_wp2_with fail
      go_ret
      have e : ns.take k = ns := List.take_of_length_le (by rw [HN.it]; exact Nat.le_refl _)
      exact ⟨_, _, rfl, ⟨by rw [← e]; exact NY.it.row⟩, ⟨NY.it.k.bel⟩⟩
    · obtain ⟨c, hc⟩ : ∃ c, ns[k]? = some c := ⟨_, List.getElem?_eq_getElem (by rw [HN.it]; exact hlt)⟩
      have hcb := HB.it c (List.mem_of_getElem? hc)
      have r := RM.it k c hc
      have TK : Aside (ns.take (k + 1) = ns.take k ++ [c]) := ⟨by rw [List.take_add_one, hc]; rfl⟩
      have LK : Aside ((ns.take k).length = k) := ⟨by rw [List.length_take, HN.it]; omega⟩
      cases hp : Tp.plainU c.toNat
      · have ht : Tp.tellU c.toNat = [37, Tp.hexN (c.toNat / 16), Tp.hexN (c.toNat % 16)] := by unfold Tp.tellU; rw [hp]; rfl
        rw [ht] at r
        have I1 := IDX.it k 0 c 37 hc (by rw [ht]; rfl) (by decide)
        rw [Nat.add_zero, ← HJ.it] at I1
        have S1 := SLC.it k c _ _ hc ht
        rw [← HJ.it] at S1
        have X1 := xd_hex (n := c.toNat / 16) (by omega)
        have X2 := xd_hex (n := c.toNat % 16) (by omega)
        have HX := Aside.mk (And.intro (Tp.hexN_lt (n := c.toNat / 16) (by omega)) (Tp.hexN_lt (n := c.toNat % 16) (by omega)))
        have P16 := Aside.mk (parse16 wr (x := Tp.hexN (c.toNat / 16)) (y := Tp.hexN (c.toNat % 16)) (by have := HX.it; omega) (by have := HX.it; omega) X1.1 X2.1)
        rw [X1.2, X2.2, show (16 * ((c.toNat / 16 : Nat) : Int) + ((c.toNat % 16 : Nat) : Int)) = c by omega] at P16
        generalize str (Tp.un [Tp.hexN (c.toNat / 16), Tp.hexN (c.toNat % 16)]) = S2 at S1 P16
        have hjlt : j + 3 ≤ N := by have := HJ.it; simp at r; omega
        have HJ2 : Aside (j + 3 = posT ns (k + 1)) := ⟨by rw [r.2, ← HJ.it]; rfl⟩
        have q1 : (j : Int) + 2 < N := by omega
        have q2 : ((j + 1 : Nat) : Int) = (j : Int) + 1 := by omega
        have q3 : ((j + 3 : Nat) : Int) = (j : Int) + 3 := by omega
        rw [q2, q3] at S1
        clear hc r hp ht X1 X2 q2 q3
        go_upto_region 9 with (first | (go_at_call 73; refine P16.it.mono ?_; rintro e w2 ⟨rfl, B2⟩) | fail)
        have NY2 : Aside (Ny w w2 (.slice q k cp) (ns.take k)) := ⟨⟨OwnB.later NY.it.row B2.it, NY.it.k.trans (Keeps.ofBelow B2.it)⟩⟩
        obtain ⟨a3, c3, w3, run3, N3⟩ := appOne (m := k + 1) c NY2.it (by rw [LK.it]; omega) (by rw [LK.it])
        rw [← TK.it] at N3
        go_wp2_with fail
        go_roundw
        case rel => exact ⟨a3, c3, k + 1, j + 3, rfl, by go_num, by omega, HJ2, by omega, N3⟩
        case measure => simp [natOfU]; omega
      · have ht : Tp.tellU c.toNat = [c.toNat] := by unfold Tp.tellU; rw [hp]; rfl
        have hne : ((c : Int) != 37) = true := by
          unfold Tp.plainU at hp
          simp at hp
          simp
          omega
        rw [ht] at r
        have I1 := IDX.it k 0 c c.toNat hc (by rw [ht]; rfl) (by omega)
        rw [Nat.add_zero, ← HJ.it, Int.toNat_of_nonneg hcb.1] at I1
        obtain ⟨a3, c3, w3, run3, N3⟩ := appOne (m := k + 1) c NY.it (by rw [LK.it]; omega) (by rw [LK.it])
        rw [← TK.it] at N3
        have hjlt : j + 1 ≤ N := by have := HJ.it; simp at r; omega
        have HJ2 : Aside (j + 1 = posT ns (k + 1)) := ⟨by rw [r.2, ← HJ.it]; rfl⟩
        clear hc r hp ht
        go_wp2_with fail
        go_roundw
        case rel => exact ⟨a3, c3, k + 1, j + 1, rfl, by go_num, by omega, HJ2, by omega, N3⟩
        case measure => simp [natOfU]; omega
theorem sguess_any (w : World) {ns : List Int} (hb : AreBytes ns) (hl : ns.length ≤ 4398046511104) : Calls Tryz.prog 72 #[.string (str (tb ns))] w fun e w' => ∃ q c, e = .returned (.slice q ns.length c) ∧ Aside (OwnB w.heap.size w' (.slice q ns.length c) ns) ∧ Aside (Below w.heap.size w w') := by
  by_cases h0 : ns = []
  · subst h0
    exact sguess_one w
  · exact sguess_at w h0 hb hl
set_option maxRecDepth 20000 in
theorem sread_at (w : World) {ns : List Int} (hb : AreBytes ns) (hl : ns.length ≤ 4398046511104) : Calls Tryz.prog 50 #[.string (str (tb ns))] w fun e w' => ∃ q c, e = .returned (.tuple #[.slice q ns.length c, .nilIface]) ∧ Aside (OwnB w.heap.size w' (.slice q ns.length c) ns) ∧ Aside (Below w.heap.size w w') := by
  have SG := Aside.mk (sguess_any w hb hl)
  have TD : Aside (∀ (x : Value) (W : World), Rd W x ns → Calls Tryz.prog 16 #[x] W fun e w' => e = .returned (.string (str (tb ns))) ∧ Aside (Below W.heap.size W w')) := ⟨fun x W h => told_at W h hb (by omega)⟩
  clear hb hl
  generalize ns.length = n at SG ⊢
  generalize str (tb ns) = S at SG TD ⊢
  go_enter Tryz.func50, Tryz.ntmps50
  go_wp2_with (first
    | (go_at_call 72; refine SG.it.mono ?_; rintro e w2 ⟨q, c, rfl, O2, B2⟩)
    | (go_at_call 16; refine (TD.it _ _ O2.it.rd).mono ?_; rintro e w3 ⟨rfl, B3⟩)
    | fail)
  go_ret2
  exact ⟨_, _, rfl, ⟨OwnB.later O2.it B3.it⟩, ⟨B2.it.trans (B3.it.mono B2.it.size)⟩⟩
end Go.Proofs.YtbbldkldgjmmgaaGreatDoor

/-
  package pipe: join
-/
import Derived.Test.YtpmmjekaefemeaaDoorPpB
namespace Go.Proofs.YtpmmjekaefemeaaDoor
open Go.RowKit

section
variable {own own' : Nat → Nat} {w w' W : World} {fv : Value} {rs : List (List Int)} {r : List Int} {I : Nat → Prop} {i p : Nat}

/-- a row of bytes under construction: new since w -/
structure Nw (w : World) (W : World) (v : Value) (ns : List Int) : Prop where
  row : OwnB w.heap.size W v ns
  k : Keeps Nowhere w W
theorem Nw.rowB {v : Value} {ns : List Int} (h : Nw w W v ns) (own : Nat → Nat) (o : Nat) : RowB (give own w.heap.size o) o W v ns := ⟨owns_any h.row, fun b hb => give_new (owns_base h.row b hb)⟩
theorem keeps_from {a b c : World} (h : Keeps Nowhere a b) (h' : Below a.heap.size b c) : Keeps Nowhere a c := Keeps.ofBelow (h.bel.trans h')
theorem make_bytesB (w : World) (n : Nat) (hn : n ≤ 140737488355328) : ∃ w' c, Aside ((Instr.makeSlice 26 (.int .i64 0) (.int .i64 n)).run Tryd.prog w = .ok (.slice (some ⟨w.heap.size, 0, none⟩) 0 c) w') ∧ Aside (Nw w w' (.slice (some ⟨w.heap.size, 0, none⟩) 0 c) []) := by
  obtain ⟨i, hi, hz0, hz1, hz2⟩ := info_parts u8info
  have h := run_make (P := Tryd.prog) w 26 5 i _ Tryd.underlying26 hi hz0 .i64 .i64 0 n (by omega) (by omega) (by rw [hz2]; omega) (by omega)
  exact ⟨_, _, ⟨h⟩, ⟨⟨World.ownsRow_made w _ _ (Nat.le_refl _) (by unfold maxLen; omega) (by simp [madeCells, hz1]), (Keeps.refl _ _).alloc _⟩⟩⟩

set_option maxHeartbeats 1000000 in
theorem join_ok (h : RdJ w fv rs) (hb : rs.flatten.length ≤ 140737488355328) (hn : rs.length ≤ 2199023255551) :
    Calls Tryd.prog 28 #[fv] w fun e w' => ∃ q l c, e = .returned (.slice q l c) ∧ Aside (Nw w w' (.slice q l c) rs.flatten) := by
  obtain ⟨a, c, rfl, hlc, _⟩ := id h
  have H := Aside.mk h
  obtain ⟨N, hN⟩ : ∃ N, rs.length = N := ⟨_, rfl⟩
  have HN := Aside.mk hN
  obtain ⟨T, hT⟩ : ∃ T, rs.flatten.length = T := ⟨_, rfl⟩
  have HT := Aside.mk hT
  rw [hT] at hb
  rw [hN] at hlc hn H ⊢
  clear h hN hT
  have MK := Aside.mk (make_bytesB w T hb)
  have HB := Aside.mk hb
  have TL := Aside.mk (flat_take_le rs)
  rw [HT.it] at TL
  go_enter Tryd.func28, Tryd.ntmps28
  go_upto_region 2 with fail
  go_wp2_with fail
  go_loopw [3, 5, 11] (fun s _ i wr => ∃ (k t : Nat), i = .int .i64 k ∧ k ≤ N ∧ s = .int .i64 t ∧ Aside ((rs.take k).flatten.length = t) ∧ wr = w) (fun _ _ i _ => N - natOf i)
  case atStart => exact ⟨0, 0, rfl, Nat.zero_le _, rfl, ⟨by simp⟩, rfl⟩
  case round =>
    obtain ⟨k, t, rfl, hk, rfl, ht, hwr⟩ := hrel
    obtain rfl : w = wr := hwr.symm
    clear hwr
    rcases Nat.eq_or_lt_of_le hk with rfl | hlt
    · have htT : t = T := by rw [← ht.it, List.take_of_length_le (by rw [HN.it]; exact Nat.le_refl _), HT.it]
      subst htT
      obtain ⟨w2, c2, run2, X2⟩ := MK.it
      clear ht MK hk
      have R2 := run2.it
      go_upto_region 8 with fail
      clear R2
      clear run2
      go_wp2_with fail
      go_loopw [6, 8, 24] (fun x _ i W => ∃ (m : Nat) (q : Option Addr) (l c : Nat), i = .int .i64 m ∧ m ≤ k ∧ x = .slice q l c ∧ Aside (Nw w W (.slice q l c) (rs.take m).flatten)) (fun _ _ i _ => k - natOf i)
      case atStart => exact ⟨0, _, _, _, rfl, Nat.zero_le _, rfl, ⟨by simpa using X2.it⟩⟩
      case round =>
        obtain ⟨m, q, l, c1, rfl, hm, rfl, X⟩ := hrel
        clear X2
        rcases Nat.eq_or_lt_of_le hm with rfl | hlt
        · go_wp2_with fail
          go_ret
          refine ⟨_, _, _, rfl, ⟨?_⟩⟩
          have := X.it
          rwa [List.take_of_length_le (by rw [HN.it]; exact Nat.le_refl _)] at this
        · obtain ⟨r, hr⟩ : ∃ r, rs[m]? = some r := ⟨_, List.getElem?_eq_getElem (by rw [HN.it]; exact hlt)⟩
          obtain ⟨_, _, e, _, hc⟩ := H.it.quiet X.it.k
          injection e with e1 e2 e3
          clear e2
          subst e1 e3
          obtain ⟨g, o', v, rfl, hv, hrd⟩ := hc m r hr
          obtain ⟨va, vc, hvs⟩ := hrd.shape
          subst hvs
          have RD := Aside.mk hrd
          have FT := Aside.mk (flat_take rs m r hr)
          have TLm := TL.it (m + 1)
          rw [FT.it, List.length_append] at TLm
          have i2 : (m : Int) ≤ 9223372036854775806 := by omega
          have HL := Aside.mk TLm
          obtain ⟨R, hR⟩ : ∃ R, r.length = R := ⟨_, rfl⟩
          rw [hR] at hv RD
          clear hR
          have KS := Aside.mk X.it.k.size
          clear hc hr hrd hm TLm
          go_wp2_with (first
            | (at_builtin; refine wpList_appendB rfl (.tmp 28) (.tmp 29) rfl w.heap.size (.slice q l c1) (.slice va R vc) (rs.take m).flatten r X.it.row RD.it (by have := HL.it; have := HB.it; omega) KS.it rfl rfl ?_; intro v4 w4 o4 k4; obtain ⟨q4, c4, hv4⟩ := OwnB.shape o4.it; obtain ⟨l4, hl4⟩ : ∃ l4, ((rs.take m).flatten ++ r).length = l4 := ⟨_, rfl⟩; rw [hl4] at hv4; clear hl4; subst hv4)
            | fail)
          go_roundw
          case rel => exact ⟨m + 1, q4, l4, c4, by go_num, by omega, rfl, ⟨⟨by rw [FT.it]; exact o4.it, keeps_from X.it.k k4.it⟩⟩⟩
          case measure => simp [natOf]; omega
    · obtain ⟨r, hr⟩ : ∃ r, rs[k]? = some r := ⟨_, List.getElem?_eq_getElem (by rw [HN.it]; exact hlt)⟩
      obtain ⟨_, _, e, _, hc⟩ := H.it
      injection e with e1 e2 e3
      clear e2
      subst e1 e3
      obtain ⟨g, o', v, rfl, hv, hrd⟩ := hc k r hr
      obtain ⟨va, vc, hvs⟩ := hrd.shape
      subst hvs
      have TLk := TL.it (k + 1)
      have FT := Aside.mk (flat_take rs k r hr)
      rw [FT.it, List.length_append, ht.it] at TLk
      obtain ⟨R, hR⟩ : ∃ R, r.length = R := ⟨_, rfl⟩
      rw [hR] at hv TLk
      have HR := Aside.mk hR
      have i1 : (t : Int) + R ≤ 9223372036854775807 := by have := HB.it; omega
      have i2 : (k : Int) ≤ 9223372036854775806 := by omega
      clear hc hr hrd hR MK hk TLk
      go_wp2_with fail
      go_roundw
      case rel => exact ⟨k + 1, t + R, by go_num, by omega, by go_num, ⟨by rw [FT.it, List.length_append, ht.it, HR.it]⟩, by trivial⟩
      case measure => simp [natOf]; omega
theorem join_one {v : Value} (hr : Rd w v r) (hn : r ≠ []) (hb : r.length ≤ 140737488355328) (hf : fv = .slice (some ⟨w.heap.size, 0, none⟩) 1 1) (hk : Keeps Nowhere (w.alloc (.cells #[v] 26)) W) :
    Calls Tryd.prog 28 #[fv] W fun e w' => ∃ g c, e = .returned (.slice (some ⟨g, 0, none⟩) r.length c) ∧ Aside (Nw W w' (.slice (some ⟨g, 0, none⟩) r.length c) r) := by
  subst hf
  refine (join_ok ((RdJ.one hr).quiet hk) (by simpa using hb) (by simp)).mono ?_
  rintro e w' ⟨q, l, c, rfl, X⟩
  have e1 : [r].flatten = r := by simp
  rw [e1] at X
  obtain ⟨a, c', e⟩ := OwnB.shape X.it.row
  injection e with e2 e3 e4
  subst e2 e3 e4
  rcases X.it.row.2 with ⟨e, h0⟩ | ⟨g, cap, cur, e, _⟩
  · exact absurd (List.eq_nil_of_length_eq_zero h0) hn
  · injection e with e5 e6 e7
    subst e5 e7
    exact ⟨g, _, rfl, X⟩
theorem join_any {v : Value} (hr : Rd w v r) (hb : r.length ≤ 140737488355328) (hf : fv = .slice (some ⟨w.heap.size, 0, none⟩) 1 1) (hk : Keeps Nowhere (w.alloc (.cells #[v] 26)) W) :
    Calls Tryd.prog 28 #[fv] W fun e w' => ∃ q c, e = .returned (.slice q r.length c) ∧ Aside (Nw W w' (.slice q r.length c) r) := by
  subst hf
  refine (join_ok ((RdJ.one hr).quiet hk) (by simpa using hb) (by simp)).mono ?_
  rintro e w' ⟨q, l, c, rfl, X⟩
  have e1 : [r].flatten = r := by simp
  rw [e1] at X
  obtain ⟨a, c', e⟩ := OwnB.shape X.it.row
  injection e with e2 e3 e4
  subst e2 e3 e4
  exact ⟨_, _, rfl, X⟩
end
end Go.Proofs.YtpmmjekaefemeaaDoor

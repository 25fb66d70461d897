/-
  package msg: Encode
-/
import Derived.Test.YtnocalkloinbbaaDoorMgA
import Derived.Test.YtnocalkloinbbaaDoorMsA
import Derived.Test.YtnocalkloinbbaaDoorMkB
import Derived.Laws.BitsAllLaws
namespace Go.Proofs.YtnocalkloinbbaaDoor
open Go.RowKit

theorem lenB_step {n : Nat} (h1 : 128 ≤ n) (h2 : n < 2097152) : lenB n = ((n % 128 + 128 : Nat) : Int) :: lenB (n / 128) := by
  unfold lenB
  rw [if_neg (by omega)]
  by_cases h : n < 16384
  · rw [if_pos h, if_pos (by omega)]
  · rw [if_neg h, if_neg (by omega), if_pos (by omega), Nat.div_div_eq_div_mul]
theorem or128 (x : Nat) (h : x < 256) : bits .or .u8 (x : Int) 128 = ((x % 128 + 128 : Nat) : Int) := by
  rw [u8_or (x : Int) 128 (by omega) (by omega) (by omega) (by omega)]
  have j : ∀ y : Nat, y < 128 → 128 ||| y = 128 + y := fun y hy => nat_join 7 128 y (by decide) (by omega)
  have h2 : x ||| 128 = x % 128 + 128 := by
    by_cases hx : x < 128
    · rw [Nat.or_comm, j x hx]; omega
    · obtain ⟨y, rfl⟩ : ∃ y, x = 128 + y := ⟨x - 128, by omega⟩
      rw [← j y (by omega), Nat.or_comm, ← Nat.or_assoc, Nat.or_self, j y (by omega)]
      omega
  simp only [Int.toNat_natCast]
  exact congrArg Int.ofNat h2
section
variable {A : Nat → Addr} {w w' W w0 : World} {v : Value} {ms : List Int}
def natE (v : Value) : Nat := match v with | .int _ x => x.toNat | _ => 0
theorem Ny.app {v' : Value} {ns : List Int} {w W w' : World} (k : Keeps Nowhere w W) (o : OwnB w.heap.size w' v' ns) (b : Below w.heap.size W w') : Ny w w' v' ns := ⟨o, k.next (S' := fun k => w.heap.size ≤ k) ⟨b.os, b.tape, b.output, b.size, fun k hk hn => b.block k (by omega)⟩ (fun k e hlt => by omega)⟩
set_option maxRecDepth 20000 in
set_option maxHeartbeats 4000000 in
theorem encodeM {most : Int} (hr : Rd w v ms) (hb : ms.length ≤ 140737488355327) (hs : Sents 74 codeVars A w) : Calls Tryd.prog 15 #[v, .int .i64 most] w fun e w' => ∃ q l c ev, e = .returned (.tuple #[.slice q l c, ev]) ∧ Hid (Coded A ev (encE ms most)) ∧ Aside (OwnB w.heap.size w' (.slice q l c) (encV ms most)) ∧ Aside (Keeps Nowhere w w') := by
  obtain ⟨a, c, rfl⟩ := hr.shape
  have MM := Aside.mk (mayMost w most)
  obtain ⟨n, hn⟩ : ∃ n, ms.length = n := ⟨_, rfl⟩
  have HR := Aside.mk hr
  rw [hn] at hb HR ⊢
  have HN := Aside.mk hn
  have hc1 := hs.cell 1 0 rfl
  have hc14 := hs.cell 14 3 rfl
  by_cases h1 : most < 0 ∨ 1048576 < most
  · have e1 : encE ms most = 2 := by unfold encE; rw [if_pos h1]
    have e2 : encV ms most = [] := by unfold encV; rw [if_neg (by rw [e1]; decide)]
    have hg : decide ((0 : Int) ≤ most ∧ most ≤ 1048576) = false := by simp; omega
    rw [hg] at MM
    rw [e1, e2]
    clear hr hn e1 e2 h1 hs hg
    go_enter Tryd.func15, Tryd.ntmps15
    go_wp2_with (first | (go_at_call 16; refine MM.it.mono ?_; clear MM; rintro e w1 ⟨rfl, hw⟩; rw [hw]; clear hw) | fail)
    go_quiet (fail)
    go_wp2
    go_ret2
    exact ⟨_, _, _, _, rfl, Coded.mk 1 2 (by decide) (by decide) rfl, ⟨⟨rfl, .inl ⟨rfl, rfl⟩⟩⟩, ⟨(Keeps.refl _ _).drewN _⟩⟩
  · have hg : decide ((0 : Int) ≤ most ∧ most ≤ 1048576) = true := by simp; omega
    rw [hg] at MM
    by_cases h4 : most < (n : Int)
    · have e1 : encE ms most = 15 := by unfold encE; rw [if_neg h1, hn, if_pos h4]
      have e2 : encV ms most = [] := by unfold encV; rw [if_neg (by rw [e1]; decide)]
      rw [e1, e2]
      clear hr hn e1 e2 h1 hs hg
      go_enter Tryd.func15, Tryd.ntmps15
      go_wp2_with (first | (go_at_call 16; refine MM.it.mono ?_; clear MM; rintro e w1 ⟨rfl, hw⟩; rw [hw]; clear hw) | fail)
      go_quiet (fail)
      go_wp2
      go_ret2
      exact ⟨_, _, _, _, rfl, Coded.mk 14 15 (by decide) (by decide) rfl, ⟨⟨rfl, .inl ⟨rfl, rfl⟩⟩⟩, ⟨(Keeps.refl _ _).drewN _⟩⟩
    · have e1 : encE ms most = 0 := by unfold encE; rw [if_neg h1, hn, if_neg h4]
      have e2 : encV ms most = lenB n ++ ms := by unfold encV; rw [if_pos e1, encM, hn]
      rw [e1, e2]
      have hn20 : n ≤ 1048576 := by omega
      obtain ⟨m, hm⟩ : ∃ m, 3 + n = m := ⟨_, rfl⟩
      obtain ⟨w1, c1, run1, M1⟩ : ∃ w1 c1, Aside ((Instr.makeSlice 29 (.int .i64 0) (.int .i64 (m : Int))).run Tryd.prog w = .ok (.slice (some ⟨w.heap.size, 0, none⟩) 0 c1) w1) ∧ Aside (Ny w w1 (.slice (some ⟨w.heap.size, 0, none⟩) 0 c1) []) := by
        obtain ⟨i, hi, hz0, hz1, hz2⟩ := info_parts u8info
        have h := run_make (P := Tryd.prog) w 29 5 i _ Tryd.underlying29 hi hz0 .i64 .i64 0 m (by omega) (by omega) (by rw [hz2]; omega) (by omega)
        exact ⟨_, _, ⟨h⟩, ⟨⟨World.ownsRow_made w _ _ (Nat.le_refl _) (by unfold maxLen; omega) (by simp [madeCells, hz1]), (Keeps.refl _ _).alloc _⟩⟩⟩
      have q0 : IntKind.i64.wrap (3 + (n : Int)) = (m : Int) := by rw [IntKind.wrap_i64]; omega
      have q1 : (3 : Int) + (n : Int) = (m : Int) := by omega
      clear hm hr hn e1 e2 h1 hs hg hc1 hc14
      go_enter Tryd.func15, Tryd.ntmps15
      go_upto_region 5 with (first
        | (go_at_call 16; refine MM.it.mono ?_; clear MM; rintro e w2 ⟨rfl, hw⟩; rw [hw]; clear hw)
        | fail)
      go_upto_region 6 with (first | (refine wpList_make0 rfl (.tmp 21) 29 rfl m rfl w1 _ run1.it ?_) | fail)
      clear run1 q0 q1
      go_upto_region 7 with fail
      go_loopw [6, 7] (fun bv nv wr => ∃ (q : Option Addr) (l c k : Nat) (P : List Int), bv = .slice q l c ∧ nv = .int .i64 k ∧ k ≤ n ∧ Aside (lenB n = P ++ lenB k ∧ P.length ≤ 3) ∧ Aside (Ny w wr (.slice q l c) P)) (fun _ nv _ => natE nv)
      case atStart => exact ⟨_, _, _, n, [], rfl, rfl, Nat.le_refl _, ⟨rfl, by simp⟩, M1⟩
      case round =>
        obtain ⟨q, l, c2, k, P, rfl, rfl, hk, HP, NP⟩ := hrel
        have hkb : k ≤ 1048576 := by omega
        obtain ⟨x, hx⟩ : ∃ x, k % 256 = x := ⟨_, rfl⟩
        have hx1 : x < 256 := by omega
        have w0 : IntKind.u8.wrap (k : Int) = (x : Int) := by rw [IntKind.wrap_u8]; omega
        have w00 : (k : Int) % 256 = (x : Int) := by omega
        have hlP : Aside (l = P.length) := ⟨by obtain ⟨_, _, e⟩ := OwnB.shape NP.it.row; injection e⟩
        by_cases hbig : 128 ≤ k
        · have g1 : (128 : Int) ≤ (k : Int) := by omega
          have OR := or128 x hx1
          obtain ⟨y, hy⟩ : ∃ y, x % 128 + 128 = y := ⟨_, rfl⟩
          rw [hy] at OR
          have hst : Aside (lenB k = (y : Int) :: lenB (k / 128)) := ⟨by rw [lenB_step hbig (by omega), show k % 128 + 128 = y by omega]⟩
          obtain ⟨k2, hk2⟩ : ∃ k2, k / 128 = k2 := ⟨_, rfl⟩
          rw [hk2] at hst
          have hk3 : (k : Int) / 128 = (k2 : Int) := by omega
          have HP2 : Aside (lenB n = (P ++ [(y : Int)]) ++ lenB k2 ∧ (P ++ [(y : Int)]).length ≤ 3) := by
            have e : lenB n = (P ++ [(y : Int)]) ++ lenB k2 := by rw [HP.it.1, hst.it]; simp
            have h3 := (lenB_len n).2
            rw [e, List.length_append] at h3
            exact ⟨e, by omega⟩
          have hlt : k2 < k := by omega
          have OWL := Aside.mk (OwnB.mono (ownB_lit wr [(y : Int)] 1 rfl (by omega)) (Nat.zero_le _))
          have bnd : Aside (P.length + [(y : Int)].length ≤ 140737488355328) := ⟨by have := HP.it.2; simp; omega⟩
          have NL : Aside (OwnB w.heap.size (wr.alloc (.cells (bv [(y : Int)]).toArray 5)) (.slice q l c2) P ∧ Keeps Nowhere w (wr.alloc (.cells (bv [(y : Int)]).toArray 5))) := ⟨NP.it.row.later ((Keeps.refl Nowhere wr).alloc _).bel, NP.it.k.alloc _⟩
          clear hx hx1 hy hk2 hkb hbig
          go_wp2_with (first
            | (at_builtin; refine wpList_appendB rfl (.tmp 29) (.tmp 33) rfl w.heap.size (.slice q l c2) (.slice (some ⟨wr.heap.size, 0, none⟩) 1 1) P [(y : Int)] NL.it.1 (OwnB.rd OWL.it) bnd.it NL.it.2.size rfl rfl ?_; intro v9 w9 O9 B9; obtain ⟨q9, c9, rfl⟩ := OwnB.shape O9.it)
            | fail)
          go_roundw
          case rel => exact ⟨q9, _, c9, k2, P ++ [(y : Int)], by simp, by first | rw [hk3] | rfl, by omega, HP2, ⟨Ny.app NL.it.2 O9.it B9.it⟩⟩
          case measure => simp [natE]; omega
        · have g1 : ¬ (128 : Int) ≤ (k : Int) := by omega
          obtain rfl : k = x := by omega
          have hk1 : lenB k = [(k : Int)] := by unfold lenB; rw [if_pos (by omega)]
          have HF : Aside (P ++ [(k : Int)] = lenB n) := ⟨by rw [HP.it.1, hk1]⟩
          have OWL := Aside.mk (OwnB.mono (ownB_lit wr [(k : Int)] 1 rfl (by omega)) (Nat.zero_le _))
          have bnd : Aside (P.length + [(k : Int)].length ≤ 140737488355328) := ⟨by have := HP.it.2; simp; omega⟩
          have NL : Aside (OwnB w.heap.size (wr.alloc (.cells (bv [(k : Int)]).toArray 5)) (.slice q l c2) P ∧ Keeps Nowhere w (wr.alloc (.cells (bv [(k : Int)]).toArray 5))) := ⟨NP.it.row.later ((Keeps.refl Nowhere wr).alloc _).bel, NP.it.k.alloc _⟩
          have HMb := Aside.mk hb
          clear hx1 hk1 hkb hbig hx hb
          go_upto_region 11 with (first
            | (at_builtin; refine wpList_appendB rfl (.tmp 35) (.tmp 38) rfl w.heap.size (.slice q l c2) (.slice (some ⟨wr.heap.size, 0, none⟩) 1 1) P [(k : Int)] NL.it.1 (OwnB.rd OWL.it) bnd.it NL.it.2.size rfl rfl ?_; intro v9 w9 O9 B9; obtain ⟨q9, l9, c9, rfl⟩ : ∃ q l c, v9 = .slice q l c := by obtain ⟨x, y, e⟩ := OwnB.shape O9.it; exact ⟨_, _, _, e⟩)
            | fail)
          have N9 : Aside (Ny w w9 (.slice q9 l9 c9) (lenB n)) := ⟨by
            have := Ny.app NL.it.2 O9.it B9.it
            rw [HF.it] at this
            exact this⟩
          have RM : Aside (Rd w9 (.slice a n c) ms) := ⟨HR.it.later N9.it.k.bel⟩
          have bnd2 : Aside ((lenB n).length + ms.length ≤ 140737488355328) := ⟨by have := (lenB_len n).2; have := HN.it; omega⟩
          clear O9 B9 NL OWL bnd HF
          go_wp2_with (first
            | (at_builtin; refine wpList_appendB rfl (.tmp 40) (.tmp 41) rfl w.heap.size (.slice q9 l9 c9) (.slice a n c) (lenB n) ms N9.it.row RM.it bnd2.it N9.it.k.size rfl rfl ?_; intro v8 w8 O8 B8; obtain ⟨q8, l8, c8, rfl⟩ : ∃ q l c, v8 = .slice q l c := by obtain ⟨x, y, e⟩ := OwnB.shape O8.it; exact ⟨_, _, _, e⟩)
            | fail)
          go_ret2
          exact ⟨_, _, _, _, rfl, Coded.none, O8, ⟨(Ny.app N9.it.k O8.it B8.it).k⟩⟩
end
end Go.Proofs.YtnocalkloinbbaaDoor

/-
  LaneMemory
-/
import Derived.Test.YtialmmobkmdfpaaDoorLmA
namespace Go.Proofs.YtialmmobkmdfpaaDoor
open Go.RowKit

section
variable {A : Nat → Addr} {w w' w0 W : World} {own own' : Nat → Nat} {L l : List Tk} {v v' vm av gv : Value} {vs ys : List Value} {f : Nat → List Tk} {p m k : Nat} {I : Nat → Prop}
theorem owns_len {base : Nat} {e : TypeId} {k n a b : Nat} {q : Option Addr} {xs : List Value} (h : w.ownsRow base e k (.slice q a b) n xs) : a = n := by
  rcases h.2 with ⟨x, rfl⟩ | ⟨g, cap, cur, x, _⟩
  · injection x
  · injection x
theorem lm_list (h : Aside (Lm A w0 p L m vm av vs f gv ys own W)) (hm : m ≤ 8796093022208) (i : Nat) : Calls Tryd.prog 13 #[ptr p] W fun e w' => ∃ a c, e = .returned (.slice a L.length c) ∧ Aside (XAt (give own W.heap.size (20 + i)) w' i (.slice a L.length c) L ∧ Lm A w0 p L m vm av vs f gv ys (give own W.heap.size (20 + i)) w') := by
  have h' := h.it.lv
  rcases h' with ⟨x, _⟩ | ⟨_, p', e, c, d⟩
  · cases x
  · injection e with e
    injection e with e
    injection e with e
    subst e
    refine (listX c hm).mono ?_
    rintro e w' ⟨v, rfl, o, k⟩
    obtain ⟨a, b, c', rfl⟩ := owns_shapeK o.it
    obtain rfl := owns_len o.it
    exact ⟨a, c', rfl, ⟨OwR.new o.it, h.it.idle (Sn.quiet k.it _)⟩⟩
theorem lm_same (h : Aside (Lm A w0 p L m vm av vs f gv ys own W)) (v : Value) (hv : Aside (RdT W v L)) : Calls Tryd.prog 12 #[v, vm] W fun e w' => e = .returned (.bool true) ∧ Aside (Keeps Nowhere W w') := by
  refine (same_tk v vm L hv.it h.it.lv.rd).mono ?_
  rintro e w' ⟨rfl, k⟩
  exact ⟨rfl, ⟨k⟩⟩
theorem lm_len (h : Aside (Lm A w0 p L m vm av vs f gv ys own W)) : Calls Tryd.prog 11 #[ptr p] W fun e w' => e = .returned (.int .i64 L.length) ∧ Aside (Lv A w0 (ptr p) false L m vm own w') := lv_len ⟨h.it.lv⟩
theorem Lm.cellx {b n c : Nat} (h : Lm A w0 p L m vm (.slice (some ⟨b, 0, none⟩) n c) vs f gv ys own w) (hk : k < vs.length) : ∃ a d, vs[k]? = some (.slice a (f k).length d) ∧ w.cell? ⟨b, k, none⟩ = some (.slice a (f k).length d) := by
  obtain ⟨b', c', a, d, v, e, hv, rfl, hc⟩ := h.cell hk
  injection e with e1
  injection e1 with e1
  injection e1 with e1
  subst e1
  exact ⟨a, d, hv, hc⟩
theorem u32_small {i : Nat} (h : i < 18) : IntKind.u32.wrap (i : Int) = i := by rw [IntKind.wrap_u32]; omega
def t91 : Tk := ⟨91, 0, 0⟩
def f4 (L : List Tk) (i : Nat) : Nat → List Tk := fun j => if j < i then r90 L.length j else L
def f5 (L : List Tk) (i j : Nat) : Nat → List Tk := fun q => if q = i then part i j L else f4 L i q
theorem f5_zero (i : Nat) (q : Nat) : f5 L i 0 q = f4 L i q := by
  unfold f5
  by_cases e : q = i
  · subst e; rw [if_pos rfl, part_zero]; unfold f4; rw [if_neg (by omega)]
  · rw [if_neg e]
theorem f5_all (i : Nat) (q : Nat) : f5 L i L.length q = f4 L (i + 1) q := by
  unfold f5
  by_cases e : q = i
  · subst e; rw [if_pos rfl, part_all]; unfold f4; rw [if_pos (by omega)]
  · rw [if_neg e]; unfold f4
    by_cases h : q < i
    · rw [if_pos h, if_pos (by omega)]
    · rw [if_neg h, if_neg (by omega)]
theorem f5_step (i j : Nat) (q : Nat) : (if q = i then part i (j + 1) L else f5 L i j q) = f5 L i (j + 1) q := by
  unfold f5
  by_cases e : q = i
  · rw [if_pos e, if_pos e]
  · rw [if_neg e, if_neg e, if_neg e]
theorem f5_at (i j : Nat) : f5 L i j i = part i j L := if_pos rfl
theorem f4_at (i : Nat) : f4 L i i = L := if_neg (by omega)
theorem f4_zero (q : Nat) : f4 L 0 q = L := if_neg (by omega)
theorem f4_end {i q : Nat} (h : q < i) : f4 L i q = r90 L.length q := if_pos h
end
set_option maxRecDepth 20000 in
set_option maxHeartbeats 8000000 in
theorem laneMemory_walk {A : Nat → Addr} (v : Value) (zs : List OpV11) (w : World) (h : St11 A w) (hz : Ops11Arg w v zs) :
    Calls Tryd.prog 7 #[v] w fun e w' => e = .returned (.bool true) ∧ Below w.heap.size w w' := by
  obtain ⟨hz, hzb⟩ := hz
  obtain ⟨sa, cap, rfl, hlc, hcm, hat⟩ := hz
  have HAT := Aside.mk hat
  obtain ⟨M, hM⟩ : ∃ M, M = zs.length := ⟨_, rfl⟩
  rw [← hM] at hlc hzb ⊢
  have HM := Aside.mk hM
  have hMb : (M : Int) ≤ 5864062014634 := by omega
  have FX := Aside.mk (fixed_ok h)
  have G0 := Aside.mk (Gl.start h)
  clear h hM hcm hzb hat
  go_enter Tryd.func7, Tryd.ntmps7
  go_upto_region 4 with (first
    | (go_at_call 8; refine FX.it.mono ?_; rintro e w1 ⟨rfl, k1⟩; have NW := Aside.mk (newX (G0.it.quiet k1.it)))
    | (go_at_call 9; refine NW.it.mono ?_; rintro e w2 ⟨p, own2, rfl, L2⟩)
    | fail)
  have X0 : Aside (Lv A w (ptr p) false [] 0 (.slice none 0 0) own2 w2) := ⟨.inr ⟨rfl, p, rfl, L2.it, rdO9_nil _ _⟩⟩
  clear FX NW k1 G0 L2
  go_wp2_with fail
  go_loopw [4, 30] (fun mv iv wr => ∃ (k : Nat) (L : List Tk) (own : Nat → Nat) (qa : Option Addr) (qc : Nat), mv = .slice qa L.length qc ∧ iv = .int .i64 k ∧ k ≤ M ∧ Aside (Lv A w (ptr p) false L k (.slice qa L.length qc) own wr)) (fun _ iv _ => M - (intOf iv).toNat)
  case atStart => exact ⟨0, [], own2, none, 0, rfl, rfl, Nat.zero_le _, X0⟩
  case round =>
    clear X0
    obtain ⟨k, L, own, qa, qc, rfl, rfl, hk, HX⟩ := hrel
    have hlb := HX.it.bound
    rcases Nat.eq_or_lt_of_le hk with rfl | hlt
    · have Y0 : Aside (Lm A w p L k (.slice qa L.length qc) (.slice none 0 0) [] (fun _ => L) (.slice none 0 0) [] own wr) := ⟨Lm.start HX.it _⟩
      clear HX HAT HM hlc
      go_wp2_with fail
      go_loopw [9, 10] (fun av iv wx => ∃ (i : Nat) (vs : List Value) (own : Nat → Nat) (aa : Option Addr) (ac : Nat), av = .slice aa i ac ∧ iv = .int .i64 i ∧ i ≤ 18 ∧ Aside (vs.length = i) ∧ Aside (Lm A w p L k (.slice qa L.length qc) (.slice aa i ac) vs (fun _ => L) (.slice none 0 0) [] own wx)) (fun _ iv _ => 18 - (intOf iv).toNat)
      case atStart => exact ⟨0, [], own, none, 0, rfl, rfl, by omega, ⟨rfl⟩, Y0⟩
      case round =>
        clear Y0
        obtain ⟨i, vs, own, aa, ac, rfl, rfl, hi, HL, Y⟩ := hrel
        rcases Nat.lt_or_eq_of_le hi with h18 | h18
        · have LS := Aside.mk (lm_list Y (by omega) i)
          have hi2 : (i : Int) < 18 := by omega
          go_upto_region 20 with (first
            | (go_at_call 13; refine LS.it.mono ?_; rintro e w3 ⟨xa, xc, rfl, Y3⟩; have SM := Aside.mk (lm_same ⟨Y3.it.2⟩ (.slice xa L.length xc) ⟨owns_readsK Y3.it.1.1⟩))
            | (go_at_call 12; refine SM.it.mono ?_; rintro e w4 ⟨rfl, K4⟩)
            | fail)
          all_goals (try (exfalso; omega))
          have Y4 := Aside.mk (Y3.it.2.quiet K4.it)
          have X4 := Aside.mk (Y3.it.1.sn (I := fun _ => False) (Sn.same K4.it) (fun x => x))
          clear Y Y3 LS SM K4
          go_wp2_with (first
            | (at_builtin; refine wpList_appendS rfl (.tmp 55) (.tmp 57) 65 rfl 26 (.slice none 0 0) 1 24 Tryd.underlying65 info65 rfl (by decide) w4 ((Keeps.refl _ _).alloc _) _ _ _ Y4.it.all.1 _ 1 [.slice xa L.length xc] (by decide) (readsK_new _ _ [.slice xa L.length xc]) (by simp [Value.oneCell']) (by have := HL.it; omega) (by unfold maxLen; have := HL.it; omega) rfl rfl ?_; intro v' w' o' s'; obtain ⟨g0, g1, g2, hv'⟩ := owns_shapeK o'.it; subst hv'; obtain rfl := owns_len o'.it)
            | fail)
          have Y5 := Aside.mk (Y4.it.push (by rw [HL.it]; exact X4.it) ((Keeps.refl _ _).alloc _) o'.it s'.it)
          go_roundw
          case rel => exact ⟨i + 1, vs ++ [.slice xa L.length xc], _, g0, g2, by rw [HL.it], by go_num, by omega, ⟨by rw [List.length_append, HL.it]; rfl⟩, by rw [← HL.it]; exact Y5⟩
          case measure => (simp only [intOf]; omega)
        · subst h18
          obtain ⟨ab, ac2, _, _, _, e18, _⟩ := Y.it.cell (k := 0) (by rw [HL.it]; omega)
          rw [HL.it] at e18
          injection e18 with e18 _ e19
          subst e18 e19
          have Y0 := Aside.mk (Lm.more Y.it (g := f4 L 0) (fun q _ => (f4_zero q).symm))
          clear Y
          go_wp2_with fail
          go_loopw [61] (fun iv wx => ∃ (i : Nat), iv = .int .i64 i ∧ i ≤ 18 ∧ Aside (Lm A w p L k (.slice qa L.length qc) (.slice (some ⟨ab, 0, none⟩) 18 ac) vs (f4 L 0) (.slice none 0 0) [] own wx)) (fun iv _ => 18 - (intOf iv).toNat)
          case atStart => exact ⟨0, rfl, by omega, Y0⟩
          case round =>
            clear Y0
            obtain ⟨i, rfl, hi, Y⟩ := hrel
            rcases Nat.lt_or_eq_of_le hi with h18 | h18
            · have hi2 : (i : Int) < 18 := by omega
              have hi3 : (0 : Int) ≤ i := by omega
              obtain ⟨xa, xc, hv, hc⟩ := Y.it.cellx (k := i) (by rw [HL.it]; exact h18)
              have R := Aside.mk (Y.it.rd hv)
              rw [f4_zero] at hv hc R
              have SM := Aside.mk (lm_same Y (.slice xa L.length xc) R)
              clear R hv
              go_wp2_with (first
                | (go_at_call 12; refine SM.it.mono ?_; rintro e w4 ⟨rfl, K4⟩)
                | fail)
              all_goals (try (exfalso; omega))
              have Y4 := Aside.mk (Y.it.quiet K4.it)
              go_roundw
              case rel => exact ⟨i + 1, by go_num, by omega, Y4⟩
              case measure => (simp only [intOf]; omega)
            · have hge : (18 : Int) ≤ i := by omega
              clear h18 hi
              go_wp2_with fail
              go_loopw [72] (fun iv wx => ∃ (i : Nat) (own : Nat → Nat), iv = .int .i64 i ∧ i ≤ 18 ∧ Aside (Lm A w p L k (.slice qa L.length qc) (.slice (some ⟨ab, 0, none⟩) 18 ac) vs (f4 L i) (.slice none 0 0) [] own wx)) (fun iv _ => 18 - (intOf iv).toNat)
              case atStart => exact ⟨0, own, rfl, by omega, Y⟩
              case round =>
                clear Y
                obtain ⟨i, own, rfl, hi, Y⟩ := hrel
                rcases Nat.lt_or_eq_of_le hi with h18 | h18
                · have hi2 : (i : Int) < 18 := by omega
                  have hi3 : (0 : Int) ≤ i := by omega
                  obtain ⟨xa, xc, hv, hc⟩ := Y.it.cellx (k := i) (by rw [HL.it]; exact h18)
                  rw [f4_at] at hv hc
                  have HV := Aside.mk hv
                  have Y1 := Aside.mk (Lm.more Y.it (g := f5 L i 0) (fun q _ => (f5_zero i q).symm))
                  have hu := u32_small h18
                  clear Y hv
                  go_wp2_with fail
                  all_goals (try (exfalso; omega))
                  go_loopw [79] (fun jv wx => ∃ (j : Nat) (own : Nat → Nat), jv = .int .i64 j ∧ j ≤ L.length ∧ Aside (Lm A w p L k (.slice qa L.length qc) (.slice (some ⟨ab, 0, none⟩) 18 ac) vs (f5 L i j) (.slice none 0 0) [] own wx)) (fun jv _ => L.length - (intOf jv).toNat)
                  case atStart => exact ⟨0, own, rfl, by omega, Y1⟩
                  case round =>
                    clear Y1 hc
                    obtain ⟨j, own, rfl, hj, Y⟩ := hrel
                    rcases Nat.lt_or_eq_of_le hj with hjl | hjl
                    · have hj2 : (j : Int) < L.length := by omega
                      have hj3 : (0 : Int) ≤ j := by omega
                      have X := Y.it.xs i _ HV.it
                      rw [f5_at] at X
                      obtain ⟨b, c, e1, hf, ⟨u0, u1, u2, c0, c1, c2⟩, hput⟩ := X.put (i := j) (by rw [part_len hj]; exact hjl) ⟨90, 0, i⟩
                      rw [part_len hj] at e1
                      injection e1 with e1 _ e2
                      subst e1 e2
                      have fr0 := hf (j * 3)
                      have fr1 := hf (j * 3 + 1)
                      have fr2 := hf (j * 3 + 2)
                      have PUT := Aside.mk hput
                      clear X hf hput
                      go_wp2_with fail
                      all_goals (try (exfalso; omega))
                      obtain ⟨Xp, Sp⟩ := PUT.it _ rfl
                      rw [part_step hjl] at Xp
                      have Y2 := Aside.mk (Lm.more (Y.it.at Sp (Nat.zero_le _) HV.it Xp) (g := f5 L i (j + 1)) (fun q _ => f5_step i j q))
                      go_roundw
                      case rel => exact ⟨j + 1, own, by go_num, by omega, Y2⟩
                      case measure => (simp only [intOf]; omega)
                    · subst hjl
                      have Y2 := Aside.mk (Lm.more Y.it (g := f4 L (i + 1)) (fun q _ => f5_all i q))
                      go_wp2_with fail
                      go_roundw
                      case rel => exact ⟨i + 1, own, by go_num, by omega, Y2⟩
                      case measure => (simp only [intOf]; omega)
                · have hge : (18 : Int) ≤ i := by omega
                  have Y0 := Aside.mk (Lm.more Y.it (g := r90 L.length) (fun q hq => f4_end (by rw [h18, ← HL.it]; exact hq)))
                  clear Y h18 hi
                  go_wp2_with fail
                  go_loopw [17, 92] (fun gv iv wx => ∃ (i : Nat) (ys : List Value) (own : Nat → Nat) (ga : Option Addr) (gc : Nat), gv = .slice ga i gc ∧ iv = .int .i64 i ∧ i ≤ 18 ∧ Aside (ys.length = i) ∧ Aside (Lm A w p L k (.slice qa L.length qc) (.slice (some ⟨ab, 0, none⟩) 18 ac) vs (r90 L.length) (.slice ga i gc) ys own wx)) (fun _ iv _ => 18 - (intOf iv).toNat)
                  case atStart => exact ⟨0, [], own, none, 0, rfl, rfl, by omega, ⟨rfl⟩, Y0⟩
                  case round =>
                    clear Y0
                    obtain ⟨i, ys, own, ga, gc, rfl, rfl, hi, HY, Y⟩ := hrel
                    rcases Nat.lt_or_eq_of_le hi with h18 | h18
                    · have hi2 : (i : Int) < 18 := by omega
                      have hi3 : (0 : Int) ≤ i := by omega
                      obtain ⟨xa, xc, hv, hc⟩ := Y.it.cellx (k := i) (by rw [HL.it]; exact h18)
                      rw [r90_len] at hv hc
                      have HV := Aside.mk hv
                      have hu := u32_small h18
                      have R0 : Aside (Grows own wr 30 3 (.slice xa L.length xc) L.length (flatT (r90 L.length i)) 8 (.slice xa (L.length + 0) xc) 0 (flatT (List.replicate 0 t91))) := by
                        have X := Y.it.xs i _ hv
                        unfold XAt at X
                        rw [r90_len] at X
                        exact ⟨Grows.start X 8⟩
                      rw [Nat.add_zero] at R0
                      clear hv
                      go_wp2_with fail
                      all_goals (try (exfalso; omega))
                      go_loopw [20, 21] (fun gx jv wx => ∃ (j : Nat) (own : Nat → Nat) (xb : Option Addr) (xd : Nat), gx = .slice xb (L.length + j) xd ∧ jv = .int .i64 j ∧ j ≤ 64 ∧ Aside (Lm A w p L k (.slice qa L.length qc) (.slice (some ⟨ab, 0, none⟩) 18 ac) vs (r90 L.length) (.slice ga i gc) ys own wx) ∧ Aside (Grows own wx 30 3 (.slice xa L.length xc) L.length (flatT (r90 L.length i)) 8 (.slice xb (L.length + j) xd) j (flatT (List.replicate j t91)))) (fun _ jv _ => 64 - (intOf jv).toNat)
                      case atStart => exact ⟨0, own, xa, xc, rfl, rfl, by omega, Y, R0⟩
                      case round =>
                        clear Y R0 hc
                        obtain ⟨j, own, xb, xd, rfl, rfl, hj, Y, G⟩ := hrel
                        rcases Nat.lt_or_eq_of_le hj with h64 | h64
                        · have hj2 : (j : Int) < 64 := by omega
                          go_wp2_with (first
                            | (at_builtin; refine wpList_appendS rfl (.tmp 102) (.tmp 104) 26 rfl 30 (.agg #[.int .i64 0, .int .u32 0, .int .u32 0]) 3 16 Tryd.underlying26 infoT rfl (by decide) wr ((Keeps.refl _ _).alloc _) _ _ _ G.it.1 _ 1 (tcells t91) (by decide) (readsK_new _ _ (tcells t91)) (by simp [tcells, Value.oneCell']) (by omega) (by unfold maxLen; omega) rfl rfl ?_; intro v' w' o' s'; obtain ⟨g0, g1, g2, hv'⟩ := owns_shapeK o'.it; subst hv'; obtain rfl := owns_len o'.it)
                            | fail)
                          all_goals (try (exfalso; omega))
                          have X : OwR own (20 + i) wr 30 3 (.slice xa L.length xc) L.length (flatT (r90 L.length i)) := by
                            have X := Y.it.xs i _ HV.it
                            unfold XAt at X
                            rwa [r90_len] at X
                          obtain ⟨X2, G2, S2⟩ := Grows.app X (by rw [flatT_len, r90_len]) G.it (by omega) ((Keeps.refl _ _).alloc _) o'.it s'.it
                          rw [← flatT_snoc, ← List.replicate_succ'] at G2
                          have Y2 := Aside.mk (Lm.more (Y.it.at (k := i) S2 (by rw [HY.it]; exact Nat.le_refl _) HV.it (l := r90 L.length i) (by unfold XAt; rw [r90_len]; exact X2)) (g := r90 L.length) (fun q _ => by by_cases e : q = i <;> simp [e]))
                          go_roundw
                          case rel => exact ⟨j + 1, _, g0, g2, rfl, by go_num, by omega, Y2, ⟨G2⟩⟩
                          case measure => (simp only [intOf]; omega)
                        · have hge2 : (64 : Int) ≤ j := by omega
                          clear h64 hj G
                          have X : OwR own (20 + i) wr 30 3 (.slice xa L.length xc) L.length (flatT (r90 L.length i)) := by
                            have X := Y.it.xs i _ HV.it
                            unfold XAt at X
                            rwa [r90_len] at X
                          have XA := Aside.mk X
                          clear X
                          have P2 : Aside (∀ (y : Value) (w5 : World), w5.ownsRow 0 30 3 y (L.length + 1) (flatT (r90 L.length i) ++ tcells (t92 i)) → Split (.slice xa L.length xc) y 1 (wr.alloc (.cells (tcells (t92 i)).toArray 30)) w5 → Lm A w p L k (.slice qa L.length qc) (.slice (some ⟨ab, 0, none⟩) 18 ac) vs (r90 L.length) (.slice ga i gc) ys (give own wr.heap.size (20 + i)) w5 ∧ XAt (give own wr.heap.size (20 + i)) w5 i y (r90 L.length i ++ [t92 i])) := ⟨fun y w5 o s => by
                            obtain ⟨a1, s1⟩ := XA.it.app ((Keeps.refl _ _).alloc _) o s
                            have a2 := XA.it.stays (by rw [flatT_len, r90_len]) ((Keeps.refl _ _).alloc _) o s
                            refine ⟨Lm.more (Y.it.at (k := i) (s1.mono (fun _ e => .inr e)) (by rw [HY.it]; exact Nat.le_refl _) HV.it (l := r90 L.length i) (by unfold XAt; rw [r90_len]; exact a2)) (g := r90 L.length) (fun q _ => by by_cases e : q = i <;> simp [e]), ?_⟩
                            unfold XAt
                            rw [flatT_snoc, List.length_append, r90_len]
                            exact a1⟩
                          go_wp2_with (first
                            | (at_builtin; refine wpList_appendS rfl (.tmp 107) (.tmp 111) 26 rfl 30 (.agg #[.int .i64 0, .int .u32 0, .int .u32 0]) 3 16 Tryd.underlying26 infoT rfl (by decide) wr ((Keeps.refl _ _).alloc _) _ _ _ XA.it.1 _ 1 (tcells (t92 i)) (by decide) (readsK_new _ _ (tcells (t92 i))) (by simp [tcells, Value.oneCell']) (by omega) (by unfold maxLen; omega) rfl rfl ?_; intro y5 w5 o5 s5; obtain ⟨h0, h1, h2, hy5⟩ := owns_shapeK o5.it; subst hy5; obtain rfl := owns_len o5.it; have Y5 := Aside.mk (P2.it _ _ o5.it s5.it))
                            | (at_builtin; refine wpList_appendS rfl (.tmp 106) (.tmp 113) 65 rfl 26 (.slice none 0 0) 1 24 Tryd.underlying65 info65 rfl (by decide) w5 ((Keeps.refl _ _).alloc _) _ _ _ Y5.it.1.gr.1 _ 1 [.slice h0 (L.length + 1) h2] (by decide) (readsK_new _ _ [.slice h0 (L.length + 1) h2]) (by simp [Value.oneCell']) (by have := HY.it; omega) (by unfold maxLen; have := HY.it; omega) rfl rfl ?_; intro v' w' o' s'; obtain ⟨g0, g1, g2, hv'⟩ := owns_shapeK o'.it; subst hv'; obtain rfl := owns_len o'.it)
                            | fail)
                          all_goals (try (exfalso; omega))
                          have Y6 := Aside.mk (Y5.it.1.gpush (by rw [HY.it]; exact Y5.it.2) ((Keeps.refl _ _).alloc _) o'.it s'.it)
                          go_roundw
                          case rel => exact ⟨i + 1, ys ++ [.slice h0 (L.length + 1) h2], _, g0, g2, by rw [HY.it], by go_num, by omega, ⟨by rw [List.length_append, HY.it]; rfl⟩, by rw [← HY.it]; exact Y6⟩
                          case measure => (simp only [intOf]; omega)
                    · have hge : (18 : Int) ≤ i := by omega
                      obtain ⟨gb, gc2, _, _, _, e18, _⟩ := Y.it.gcell (k := 0) (by rw [HY.it]; omega)
                      rw [HY.it] at e18
                      injection e18 with e18 _ e19
                      subst e18 e19
                      have HY2 := Aside.mk (show ys.length = 18 by rw [HY.it, h18])
                      clear h18 hi HY
                      go_wp2_with fail
                      go_loopw [118] (fun jv wx => ∃ (j : Nat), jv = .int .i64 j ∧ j ≤ 18 ∧ Aside (Lm A w p L k (.slice qa L.length qc) (.slice (some ⟨ab, 0, none⟩) 18 ac) vs (r90 L.length) (.slice (some ⟨gb, 0, none⟩) i gc) ys own wx)) (fun jv _ => 18 - (intOf jv).toNat)
                      case atStart => exact ⟨0, rfl, by omega, Y⟩
                      case round =>
                        clear Y
                        obtain ⟨j, rfl, hj, Y⟩ := hrel
                        rcases Nat.lt_or_eq_of_le hj with h18 | h18
                        · have hj2 : (j : Int) < 18 := by omega
                          have hj3 : (0 : Int) ≤ j := by omega
                          have hj4 : (j : Int) < i := by omega
                          have hu := u32_small h18
                          obtain ⟨xa, xc, hv, hc⟩ := Y.it.cellx (k := j) (by rw [HL.it]; exact h18)
                          have R := Aside.mk (Y.it.rd hv).at
                          rw [r90_len] at hv hc
                          clear hv
                          go_wp2_with fail
                          all_goals (try (exfalso; omega))
                          go_loopw [125] (fun qv wx => ∃ (q : Nat), qv = .int .i64 q ∧ q ≤ L.length ∧ wx = wr) (fun qv _ => L.length - (intOf qv).toNat)
                          case atStart => exact ⟨0, rfl, by omega, rfl⟩
                          case round =>
                            obtain ⟨q, rfl, hq, hwr⟩ := hrel
                            subst hwr
                            rcases Nat.lt_or_eq_of_le hq with hql | hql
                            · obtain ⟨a', c', e1, _, _, hat⟩ := R.it
                              obtain ⟨xg, xo, e2, d0, d1, d2⟩ := hat q _ (r90_at hql)
                              injection e1 with e1
                              subst e1 e2
                              simp only at d0 d1 d2
                              have hq2 : (q : Int) < L.length := by omega
                              have hq3 : (0 : Int) ≤ q := by omega
                              have EQ := fun w => tk_neq w 90 90 (0 : Nat) (0 : Nat) j j
                              simp only [and_self, decide_true, Bool.not_true] at EQ
                              clear hat
                              go_wp2_with fail
                              all_goals (try (exfalso; omega))
                              go_roundw
                              case rel => exact ⟨q + 1, by go_num, by omega, trivial⟩
                              case measure => (simp only [intOf]; omega)
                            · have hge3 : (L.length : Int) ≤ q := by omega
                              clear hql hq
                              obtain ⟨gb', gc', b2, gd, y, e5, hy, e6, g0, y0, y1, y2⟩ := Y.it.gcell (k := j) (by rw [HY2.it]; exact h18)
                              injection e5 with e5
                              injection e5 with e5
                              injection e5 with e5
                              subst e5 e6
                              have EQ := fun w => tk_neq w 92 92 (0 : Nat) (0 : Nat) j j
                              simp only [and_self, decide_true, Bool.not_true] at EQ
                              have hl1 : (L.length : Int) < L.length + 1 := by omega
                              have hl2 : (0 : Int) ≤ L.length := by omega
                              clear hy
                              go_wp2_with fail
                              all_goals (try (exfalso; omega))
                              go_roundw
                              case rel => exact ⟨j + 1, by go_num, by omega, Y⟩
                              case measure => (simp only [intOf]; omega)
                        · have hge3 : (18 : Int) ≤ j := by omega
                          clear h18 hj
                          have LS := Aside.mk (lm_list Y (by omega) 30)
                          go_wp2_with (first
                            | (go_at_call 13; refine LS.it.mono ?_; rintro e w3 ⟨xa, xc, rfl, Y3⟩; have SM := Aside.mk (lm_same ⟨Y3.it.2⟩ (.slice xa L.length xc) ⟨owns_readsK Y3.it.1.1⟩))
                            | (go_at_call 12; refine SM.it.mono ?_; rintro e w4 ⟨rfl, K4⟩; have Y4 := Aside.mk (Y3.it.2.quiet K4.it); have LN := Aside.mk (lm_len Y4))
                            | (go_at_call 11; refine LN.it.mono ?_; rintro e w5 ⟨rfl, X5⟩)
                            | fail)
                          go_ret
                          exact ⟨rfl, X5.it.bel⟩
    · obtain ⟨o, ho⟩ : ∃ o, zs[k]? = some o := ⟨_, List.getElem?_eq_getElem (by rw [← HM.it]; exact hlt)⟩
      obtain ⟨sb, so, cs, rfl, ⟨hcs, hwide⟩, _, hc⟩ := HAT.it k o ho
      subst hcs
      have hbel := HX.it.bel
      have ev0 : ∀ {q v}, w.cell? q = some v → wr.cell? q = some v := fun {q v} h => by rw [World.cell?_of_block (hbel.block _ (World.block_lt_of_cell? w _ h))]; exact h
      have r0 := hc 0 (by decide)
      have r1 := hc 1 (by decide)
      have r2 := hc 2 (by decide)
      have r3 := hc 3 (by decide)
      simp only [OpV11.cells, List.getElem?_cons_zero, List.getElem?_cons_succ, Nat.add_zero] at r0 r1 r2 r3
      replace r0 := ev0 r0
      replace r1 := ev0 r1
      replace r2 := ev0 r2
      replace r3 := ev0 r3
      have HW := Aside.mk hwide
      have i2 : (k : Int) < M := by omega
      have i3 : (0 : Int) ≤ k := by omega
      clear ho hc hwide ev0 hbel
      go_upto_region 8 with fail
      all_goals (try (exfalso; omega))
      obtain ⟨W1, hW1⟩ : ∃ W1, W1 = wr.alloc (.cells #[.int .i64 o.kind, .int .i64 o.t.k, .int .u32 o.t.s, .int .u32 o.t.v] 32) := ⟨_, rfl⟩
      rw [← hW1]
      have X1 : Aside (Lv A w (ptr p) false L k (.slice qa L.length qc) own W1) := ⟨HX.it.quiet (by rw [hW1]; exact (Keeps.refl _ _).alloc _)⟩
      have B1 : Cells W1 wr.heap.size 32 o.cells := by rw [hW1]; exact Cells.new _ _ _
      have d0 : W1.cell? ⟨wr.heap.size, 0, none⟩ = some (.int .i64 o.kind) := by rw [B1.cell]; rfl
      have d1 : W1.cell? ⟨wr.heap.size, 1, none⟩ = some (.int .i64 o.t.k) := by rw [B1.cell]; rfl
      have d2 : W1.cell? ⟨wr.heap.size, 2, none⟩ = some (.int .u32 o.t.s) := by rw [B1.cell]; rfl
      have d3 : W1.cell? ⟨wr.heap.size, 3, none⟩ = some (.int .u32 o.t.v) := by rw [B1.cell]; rfl
      have ST := Aside.mk (lv_step X1.it o HW.it (by omega))
      clear hW1 HX r0 r1 r2 r3 B1
      go_wp2_with (first
        | (go_at_call 10; refine ST.it.mono ?_; rintro e w3 ⟨vm3, own3, L3, rfl, X3⟩; obtain ⟨a3, c3, e3, _, _, _⟩ := X3.it.rd.at; subst e3)
        | fail)
      go_roundw
      case rel => exact ⟨k + 1, L3, own3, a3, c3, rfl, by go_num, by omega, X3⟩
      case measure => (simp only [intOf]; omega)
end Go.Proofs.YtialmmobkmdfpaaDoor

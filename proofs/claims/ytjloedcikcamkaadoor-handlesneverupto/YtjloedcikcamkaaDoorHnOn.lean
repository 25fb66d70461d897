/-
  culvertlaw22.HandlesOn
-/
import Derived.Test.YtjloedcikcamkaaDoorHnS
namespace Go.Proofs.YtjloedcikcamkaaDoor
open Go.RowKit

variable {w w' W w0 : World} {A : Nat → Addr} {own own' : Nat → Nat} {p g : Nat} {L : Hl} {x : Pl}
/-- a Handles above the ground -/
structure Wn (A : Nat → Addr) (w0 : World) (own : Nat → Nat) (W : World) (p g : Nat) (L : Hl) : Prop where
  og : OnG A w0 own W
  h : HnO own 1 W p g L
theorem Wn.quiet (h : Wn A w0 own W p g L) (hk : Keeps Nowhere W w') : Wn A w0 own w' p g L := ⟨h.og.quiet hk, h.h.quiet hk⟩
theorem Wn.bel (h : Wn A w0 own W p g L) : Keeps Nowhere w0 W := Keeps.ofBelow h.og.g.bel
theorem wn_drop {z : Int} (h : Aside (Wn A w0 own W p g L)) (hz : Zw z) : Calls Tryd.prog 12 #[ptr p, .int .i64 z] W fun e w' => e = .returned (.bool (hfind L z).isSome) ∧ Aside (Wn A w0 own w' p g (hdel L z)) := by
  refine (drop_at h.it.h hz).mono ?_
  rintro e w' ⟨rfl, X⟩
  exact ⟨rfl, ⟨h.it.og.sn X.it.2 (by decide), X.it.1⟩⟩
theorem wn_bind (h : Aside (Wn A w0 own W p g L)) (hx : x.Wide) : Calls Tryd.prog 14 #[ptr p, .agg #[.int .i64 x.c, .int .i64 x.l, .int .u32 (x.d : Nat)]] W fun e w' => ∃ ev, e = .returned (.tuple #[.int .i64 (bindN g L x), ev]) ∧ Hid (Coded A ev (bindC g L x)) ∧ Aside (Wn A w0 own w' p (bindG g L x) (bindL g L x)) := by
  refine (bind_at h.it.h hx h.it.og.sents).mono ?_
  rintro e w' ⟨ev, rfl, C, X⟩
  exact ⟨ev, rfl, C, ⟨h.it.og.sn X.it.2 (by decide), X.it.1⟩⟩
/-- a Bind that fails leaves all as it was -/
theorem bind_way (g : Nat) (L : Hl) (x : Pl) : (bindC g L x = 0 ∧ bindN g L x = (g : Int) + 1 ∧ bindG g L x = g + 1 ∧ bindL g L x = L ++ [((g : Int) + 1, x)] ∧ hof L x = none ∧ g < 2147483648) ∨ (bindC g L x ≠ 0 ∧ bindN g L x = 0 ∧ bindG g L x = g ∧ bindL g L x = L) := by
  unfold bindC bindN bindG bindL
  cases hl : (hof L x).isSome with
  | true => right; simp
  | false =>
    by_cases hr : 2147483648 ≤ g
    · right; simp [hr]
    · left
      refine ⟨by simp [hr], by simp [hr], by simp [hr], by simp [hr], by simpa using hl, by omega⟩
/-- how many of a rising list lie below k -/
def blw (hs : List Int) (k : Int) : Nat := (hs.filter (fun y => decide (y < k))).length
theorem blw_at {hs : List Int} (hu : hs.Pairwise (· < ·)) {k : Int} (hk : k ∈ hs) : hs[blw hs k]? = some k ∧ blw hs (k + 1) = blw hs k + 1 := by
  unfold blw
  induction hs with
  | nil => cases hk
  | cons y hs ih =>
    obtain ⟨h1, h2⟩ := List.pairwise_cons.1 hu
    by_cases hy : y < k
    · rw [List.filter_cons_of_pos (by simpa using hy), List.filter_cons_of_pos (by simp; omega)]
      rcases List.mem_cons.1 hk with e | e
      · omega
      · obtain ⟨i1, i2⟩ := ih h2 e
        simp only [List.length_cons, List.getElem?_cons_succ]
        exact ⟨i1, by omega⟩
    · have e : k = y := by
        rcases List.mem_cons.1 hk with e | e
        · exact e
        · have := h1 k e; omega
      subst e
      have none : ∀ m : Int, m ≤ k + 1 → hs.filter (fun y => decide (y < m)) = [] := fun m hm => List.filter_eq_nil_iff.2 (fun z hz => by have := h1 z hz; simp; omega)
      rw [List.filter_cons_of_neg (by simp), List.filter_cons_of_pos (by simp; omega), none k (by omega), none (k + 1) (by omega)]
      simp
theorem blw_not {hs : List Int} {k : Int} (hk : k ∉ hs) : blw hs (k + 1) = blw hs k := by
  unfold blw
  congr 1
  refine List.filter_congr (fun y hy => ?_)
  have : y ≠ k := fun e => hk (e ▸ hy)
  simp only [decide_eq_decide]
  omega
theorem blw_all {hs : List Int} {k : Int} (h : ∀ y ∈ hs, y < k) : blw hs k = hs.length := by
  unfold blw
  rw [List.filter_eq_self.2 (fun y hy => by simpa using h y hy)]
theorem blw_none {hs : List Int} {k : Int} (h : ∀ y ∈ hs, k ≤ y) : blw hs k = 0 := by
  unfold blw
  rw [List.filter_eq_nil_iff.2 (fun y hy => by have := h y hy; simp; omega)]
  rfl
def ivOf : Value → Int | .int _ q => q | _ => 0
set_option maxRecDepth 20000 in
set_option maxHeartbeats 4000000 in
theorem handlesOn_walk {A : Nat → Addr} (s : Value) (zs : List OpV22) (cc ll : Int) (w : World) (hs : Sents 113 codeVars A w) (hz : Ops22Arg w s zs) :
    Calls Tryd.prog 5 #[s, .int .i64 cc, .int .i64 ll] w fun e w' => e = .returned (.bool true) ∧ Below w.heap.size w w' := by
  obtain ⟨hz, hz40⟩ := hz
  have HZ := Aside.mk hz
  obtain ⟨a, c, rfl, hzc, hcm, _⟩ := hz
  obtain ⟨N, hN⟩ : ∃ N, zs.length = N := ⟨_, rfl⟩
  have HN := Aside.mk hN
  rw [hN] at hzc hz40 ⊢
  have WK := Aside.mk (wakes22 hs)
  have HS := Aside.mk hs
  have hNm : (N : Int) ≤ 9223372036854775806 := by omega
  clear hs hN
  go_enter Tryd.func5, Tryd.ntmps5
  go_upto_region 3 with (go_at_call 8; refine WK.it.mono ?_; rintro e w1 ⟨rfl, K1⟩)
  clear WK
  have S1 := Aside.mk (HS.it.later K1.it.bel)
  have NW := Aside.mk (new_at w1 (fun _ => 0) 1)
  go_upto_region 4 with (go_at_call 9; refine NW.it.mono ?_; rintro e w2 ⟨p, own2, rfl, X2⟩)
  have P2 : Aside (Wn A w1 own2 w2 p 0 []) := ⟨(OnG.start S1.it).sn X2.it.2.2 (fun x => x), X2.it.1⟩
  clear NW X2 S1
  go_upto_region 6 with fail
  go_loopw [8, 9] (fun vg v wr => ∃ (j g : Nat) (L : Hl) (own : Nat → Nat), vg = .int .i64 g ∧ v = .int .i64 j ∧ j ≤ N ∧ Aside (Wn A w1 own wr p g L)) (fun _ v _ => N - natOfS v)
  case atStart => exact ⟨0, 0, [], own2, rfl, rfl, Nat.zero_le _, P2⟩
  case round =>
    clear P2
    obtain ⟨j, g, L, own, rfl, rfl, hj, P⟩ := hrel
    rcases Nat.eq_or_lt_of_le hj with rfl | hlt
    · have ON := Aside.mk (on_at P.it.h cc ll)
      go_upto_region 14 with (go_at_call 18; refine ON.it.mono ?_; rintro e w4 ⟨v4, rfl, R4, K4⟩)
      have P4 := Aside.mk (P.it.quiet K4.it)
      have HB := Aside.mk (hon_bounds P.it.h.ok cc ll)
      have RD := Aside.mk (R4.it.rdI HB.it)
      have HO := Aside.mk P.it.h.ok
      obtain ⟨la, lc, hv4, hlc, hlm, hlr⟩ := RD.it
      subst hv4
      have HLR := Aside.mk hlr
      obtain ⟨M, hM⟩ : ∃ M, (honL L cc ll).length = M := ⟨_, rfl⟩
      have HM := Aside.mk hM
      have hMm : M ≤ 2147483648 := by rw [← hM]; exact Nat.le_trans (hon_len _ _ _) (Nat.le_trans HO.it.len HO.it.m)
      have hgm : (g : Int) ≤ 2147483648 := by have := HO.it.m; omega
      rw [hM]
      rw [hM] at hlc
      clear ON R4 RD P hlr hM hlm
      go_upto_region 16 with fail
      go_loopw [13, 14] (fun va v wr => ∃ (k : Nat), v = .int .i64 k ∧ 1 ≤ k ∧ k ≤ g + 1 ∧ va = .int .i64 (blw (honL L cc ll) k : Nat) ∧ Aside (Wn A w1 own wr p g L) ∧ Aside (Keeps Nowhere w4 wr)) (fun _ v _ => g + 1 - natOfS v)
      case atStart =>
        refine ⟨1, rfl, Nat.le_refl _, by omega, ?_, P4, ⟨Keeps.refl _ _⟩⟩
        rw [blw_none (fun y hy => by obtain ⟨q, hq, _⟩ := (hon_mem HO.it cc ll y).1 hy; have := HO.it.b _ (hfind_mem hq); simp only at this; omega)]
        rfl
      case round =>
        clear P4
        obtain ⟨k, rfl, hk1, hkg, rfl, P, K⟩ := hrel
        have hbl : blw (honL L cc ll) k ≤ M := by rw [← HM.it]; exact List.length_filter_le _ _
        rcases Nat.eq_or_lt_of_le hkg with rfl | hkl
        · have hall : blw (honL L cc ll) ((g + 1 : Nat) : Int) = M := by rw [← HM.it]; exact blw_all (fun y hy => by obtain ⟨q, hq, _⟩ := (hon_mem HO.it cc ll y).1 hy; have := HO.it.b _ (hfind_mem hq); simp only at this; omega)
          rw [hall]
          have hd : decide (((g + 1 : Nat) : Int) ≤ (g : Int)) = false := decide_eq_false (by omega)
          have hd' : ¬ ((g + 1 : Nat) : Int) ≤ (g : Int) := by omega
          clear hall
          go_wp2_with fail
          go_ret
          exact ⟨rfl, (K1.it.trans P.it.bel).bel⟩
        · have hkk : (k : Int) ≤ (g : Int) := by omega
          have hd : decide ((k : Int) ≤ (g : Int)) = true := decide_eq_true hkk
          have FN := Aside.mk (find_at P.it.h (z := k) ⟨by omega, by omega⟩)
          have hmem := hon_mem HO.it cc ll k
          obtain ⟨fo, hfo⟩ : ∃ fo, hfind L (k : Int) = fo := ⟨_, rfl⟩
          rw [hfo] at FN hmem
          obtain ⟨bl, hbe⟩ : ∃ bl, blw (honL L cc ll) (k : Int) = bl := ⟨_, rfl⟩
          rw [hbe] at hbl ⊢
          have HBE := Aside.mk hbe
          clear hfo hbe
          cases fo with
          | none =>
            have NM : Aside ((k : Int) ∉ honL L cc ll) := ⟨fun h => by obtain ⟨q, e, _⟩ := hmem.1 h; cases e⟩
            clear hmem
            have FN' : Aside (Calls Tryd.prog 16 #[ptr p, .int .i64 k] wr fun e w' => e = .returned (.tuple #[.agg #[.int .i64 0, .int .i64 0, .int .u32 0], .bool false]) ∧ Aside (Keeps Nowhere wr w')) := FN
            clear FN
            go_wp2_with (go_at_call 16; refine FN'.it.mono ?_; rintro e w5 ⟨rfl, K5⟩)
            go_roundw
            case rel => exact ⟨k + 1, by go_num, by omega, by omega, by rw [← HBE.it, ← blw_not NM.it]; rfl, ⟨P.it.quiet (K5.it.alloc _)⟩, ⟨K.it.trans (K5.it.alloc _)⟩⟩
            case measure => simp [natOfS]; omega
          | some q =>
            obtain ⟨qc, ql, qd⟩ := q
            have FN' : Aside (Calls Tryd.prog 16 #[ptr p, .int .i64 k] wr fun e w' => e = .returned (.tuple #[.agg #[.int .i64 qc, .int .i64 ql, .int .u32 (qd : Nat)], .bool true]) ∧ Aside (Keeps Nowhere wr w')) := FN
            clear FN
            by_cases h1 : qc = cc
            · by_cases h2 : ql = ll
              · have e1 : (qc != cc) = false := by simp [h1]
                have e2 : (ql != ll) = false := by simp [h2]
                have HMEM : Aside ((k : Int) ∈ honL L cc ll) := ⟨hmem.2 ⟨_, rfl, h1, h2⟩⟩
                obtain ⟨b1, b2⟩ := blw_at (hon_up HO.it cc ll) HMEM.it
                rw [HBE.it] at b1 b2
                have hblt : bl < M := by rw [← HM.it]; exact (List.getElem?_eq_some_iff.1 b1).1
                obtain ⟨_, sb, so, rfl, hsc⟩ := HLR.it bl k b1
                have B2 := Aside.mk b2
                have hge : decide ((bl : Int) ≥ (M : Int)) = false := decide_eq_false (by omega)
                have hkk2 : ((k : Int) != (k : Int)) = false := by simp
                have hsc5 : Aside (∀ W, Keeps Nowhere wr W → W.cell? ⟨sb, so + bl, none⟩ = some (.int .i64 k)) := ⟨fun W kk => by rw [World.cell?_of_block (w := w4) ((K.it.trans kk).block sb (World.block_lt_of_cell? w4 _ hsc) (fun x => x))]; exact hsc⟩
                clear hmem h1 h2 b1 b2 hsc
                go_upto_region 19 with (go_at_call 16; refine FN'.it.mono ?_; rintro e w5 ⟨rfl, K5⟩)
                have K5a := Aside.mk (K5.it.alloc (.cells #[.int .i64 qc, .int .i64 ql, .int .u32 (qd : Nat)] 33))
                have C5 := Aside.mk (Cells.new w5 33 [.int .i64 qc, .int .i64 ql, .int .u32 (qd : Nat)])
                have e5 : w5.alloc (.cells [.int .i64 qc, .int .i64 ql, .int .u32 (qd : Nat)].toArray 33) = w5.alloc (.cells #[.int .i64 qc, .int .i64 ql, .int .u32 (qd : Nat)] 33) := rfl
                rw [e5] at C5
                clear e5
                generalize w5.alloc (.cells #[.int .i64 qc, .int .i64 ql, .int .u32 (qd : Nat)] 33) = w6 at K5a C5 ⊢
                generalize w5.heap.size = b5 at C5 ⊢
                have x0 : w6.cell? ⟨b5, 0, none⟩ = some (.int .i64 qc) := by rw [C5.it.cell]; rfl
                have x1 : w6.cell? ⟨b5, 1, none⟩ = some (.int .i64 ql) := by rw [C5.it.cell]; rfl
                have x2 := hsc5.it w6 K5a.it
                go_wp2_with fail
                go_roundw
                case rel => exact ⟨k + 1, by go_num, by omega, by omega, by rw [show (((k + 1 : Nat) : Int)) = (k : Int) + 1 from rfl, B2.it]; go_num, ⟨P.it.quiet K5a.it⟩, ⟨K.it.trans K5a.it⟩⟩
                case measure => simp [natOfS]; omega
              · have e1 : (qc != cc) = false := by simp [h1]
                have e2 : (ql != ll) = true := by simp [h2]
                have NM : Aside ((k : Int) ∉ honL L cc ll) := ⟨fun h => by obtain ⟨q, e, _, hq⟩ := hmem.1 h; injection e with e; rw [← e] at hq; exact h2 hq⟩
                clear hmem h1 h2
                go_wp2_with (go_at_call 16; refine FN'.it.mono ?_; rintro e w5 ⟨rfl, K5⟩)
                go_roundw
                case rel => exact ⟨k + 1, by go_num, by omega, by omega, by rw [← HBE.it, ← blw_not NM.it]; rfl, ⟨P.it.quiet (K5.it.alloc _)⟩, ⟨K.it.trans (K5.it.alloc _)⟩⟩
                case measure => simp [natOfS]; omega
            · have e1 : (qc != cc) = true := by simp [h1]
              have NM : Aside ((k : Int) ∉ honL L cc ll) := ⟨fun h => by obtain ⟨q, e, hq, _⟩ := hmem.1 h; injection e with e; rw [← e] at hq; exact h1 hq⟩
              clear hmem h1
              go_wp2_with (go_at_call 16; refine FN'.it.mono ?_; rintro e w5 ⟨rfl, K5⟩)
              go_roundw
              case rel => exact ⟨k + 1, by go_num, by omega, by omega, by rw [← HBE.it, ← blw_not NM.it]; rfl, ⟨P.it.quiet (K5.it.alloc _)⟩, ⟨K.it.trans (K5.it.alloc _)⟩⟩
              case measure => simp [natOfS]; omega
    · obtain ⟨z, hzj⟩ : ∃ z, zs[j]? = some z := ⟨_, List.getElem?_eq_getElem (by rw [HN.it]; exact hlt)⟩
      obtain ⟨zb, zo, rfl, y0, y1, y2, y3, y4, hpw, hzw⟩ := op22_cells HZ.it hzj
      have hb := (K1.it.trans P.it.bel).block zb (World.block_lt_of_cell? w _ y0) (fun x => x)
      have z0 : wr.cell? ⟨zb, zo + j * 5, none⟩ = some (.int .i64 z.kind) := by rw [World.cell?_of_block (w := w) hb]; exact y0
      have z1 : wr.cell? ⟨zb, zo + j * 5 + 1, none⟩ = some (.int .i64 z.p.c) := by rw [World.cell?_of_block (w := w) hb]; exact y1
      have z2 : wr.cell? ⟨zb, zo + j * 5 + 1 + 1, none⟩ = some (.int .i64 z.p.l) := by rw [World.cell?_of_block (w := w) hb]; exact y2
      have z3 : wr.cell? ⟨zb, zo + j * 5 + 1 + 2, none⟩ = some (.int .u32 (z.p.d : Nat)) := by rw [World.cell?_of_block (w := w) hb]; exact y3
      have z4 : wr.cell? ⟨zb, zo + j * 5 + 4, none⟩ = some (.int .i64 z.h) := by rw [World.cell?_of_block (w := w) hb]; exact y4
      have HP := Aside.mk hpw
      have HW := Aside.mk hzw
      clear y0 y1 y2 y3 y4 hb hzj hpw hzw
      by_cases hkd : z.kind = 2
      · have q1 : (z.kind == 2) = true := by simp [hkd]
        have DR := Aside.mk (wn_drop P HW.it)
        clear hkd
        go_wp2_with (go_at_call 12; refine DR.it.mono ?_; rintro e w5 ⟨rfl, P5⟩)
        go_roundw
        case rel => exact ⟨j + 1, g, _, own, rfl, by go_num, by omega, P5⟩
        case measure => simp [natOfS]; omega
      · have q1 : (z.kind == 2) = false := by simp [hkd]
        have BD := Aside.mk (wn_bind P HP.it)
        clear hkd
        rcases bind_way g L z.p with ⟨h1, h2, h3, h4, _, h6⟩ | ⟨h1, h2, h3, h4⟩
        · rw [h1, h2, h3, h4] at BD
          have hgt : decide ((g : Int) + 1 > (g : Int)) = true := decide_eq_true (by omega)
          have hgm : (g : Int) ≤ 2147483647 := by omega
          clear h1 h2 h3 h4 h6
          go_wp2_with (go_at_call 14; refine BD.it.mono ?_; rintro e w5 ⟨ev, rfl, C5, P5⟩; have e5 : ev = .nilIface := Coded.zero C5.out; subst e5)
          go_roundw
          case rel => exact ⟨j + 1, g + 1, _, own, by go_num, by go_num, by omega, P5⟩
          case measure => simp [natOfS]; omega
        · rw [h2, h3, h4] at BD
          have H1 := Aside.mk h1
          clear h1 h2 h3 h4
          go_wp2_with (go_at_call 14; refine BD.it.mono ?_; rintro e w5 ⟨ev, rfl, C5, P5⟩; obtain ⟨ei, he5⟩ : ∃ ei : Nat, ev = .iface 113 (.pointer (some (A ei))) := (by rcases C5.out with ⟨_, e0⟩ | ⟨ei, _, _, e1, _⟩; (· exact absurd e0 H1.it); (· exact ⟨ei, e1⟩)); subst he5)
          go_roundw
          case rel => exact ⟨j + 1, g, _, own, rfl, by go_num, by omega, P5⟩
          case measure => simp [natOfS]; omega
end Go.Proofs.YtjloedcikcamkaaDoor

/-
  FeedBounds.
-/
import Derived.Test.YtigcfonlcknpaaaDoorBoundsP
namespace Go.Proofs.YtigcfonlcknpaaaDoor
open Go.RowKit

section
variable {A : Nat → Addr} {w : World} {most : Int}
theorem Lw.b {w0 : World} {own : Nat → Nat} {i j p : Nat} {hs : List Int} (h : Lw A w0 own i j p most hs none w) : AreBytes hs ∧ Live (ckH most) szN hs := by
  obtain ⟨⟨g, d, _⟩, l⟩ := h.D
  exact ⟨d.b, l⟩
/-- Feed of a new copy of a part of the argument -/
theorem feed_bd {w0 W W' : World} {own : Nat → Nat} {p : Nat} {hs : List Int} (h : Lw A w0 own 1 2 p most hs none W) (hk : Keeps Nowhere W W') (x : Value) (seg : List Int) (R : RdS (fun k => k < W.heap.size ∧ own k = 1) W' x seg) (hb : AreBytes seg) (hN : hs.length + seg.length ≤ 1099511627776) (o : Out) (ho : feedO most hs none seg = o) :
    Calls Tryd.prog 17 #[dPtr p, x] W' fun e w' => ∃ gq gc ev2 own2, e = .returned (.tuple #[.slice gq o.fs.length gc, ev2]) ∧ Aside (Lw A w0 own2 1 2 p most o.rest o.dead w' ∧ ErrS A own2 2 w' most ev2 o.dead) := by
  subst ho
  refine (feed_a (by decide) (by decide) (by decide) h.G h.D hk x seg R hb hN).mono ?_
  rintro e w' ⟨gv, ev2, own2, rfl, X⟩
  obtain ⟨q, c, rfl⟩ := X.it.F.shape
  exact ⟨q, c, ev2, own2, rfl, ⟨⟨X.it.G, X.it.D⟩, X.it.E⟩⟩
theorem feed_over {w0 W : World} {own : Nat → Nat} {p : Nat} {hs h : List Int} (L : Lw A w0 own 1 2 p most hs (some h) W) (x : Value) :
    Calls Tryd.prog 17 #[dPtr p, x] W fun e w' => ∃ ev2, e = .returned (.tuple #[.slice none 0 0, ev2]) ∧ Aside (Lw A w0 own 1 2 p most hs (some h) w' ∧ ErrS A own 2 w' most ev2 (some h) ∧ Keeps Nowhere W w') := by
  obtain ⟨vb, d⟩ := L.D
  refine (feed_dead d x).mono ?_
  rintro e w' ⟨rfl, hk⟩
  exact ⟨_, rfl, ⟨L.quiet hk, ⟨vb, rfl, d.v.quiet hk⟩, hk⟩⟩
set_option maxHeartbeats 1000000 in
set_option maxRecDepth 20000 in
theorem feedBounds_bad (most : Int) (v : Value) (B : Base A w) (h : most < 1 ∨ 65536 < most) :
    Calls Tryd.prog 8 #[.int .i64 most, v] w fun e w' => e = .returned (.bool true) ∧ Below w.heap.size w w' := by
  have F := Aside.mk (fixed5 B)
  have N : Aside (∀ W, Below w.heap.size w W → _) := ⟨fun W hW => new_bad (A := A) most W (B.later hW).s h⟩
  clear B
  rcases h with h | h
  · go_enter Tryd.func8, Tryd.ntmps8
    go_wp2_with (first | (go_at_call 14; refine F.it.mono ?_; rintro e w1 ⟨rfl, b1⟩; have B1 := Aside.mk b1; clear b1) | (go_at_call 9; refine (N.it _ B1.it).mono ?_; rintro e w2 ⟨rfl, n2, rfl⟩))
    go_ret
    exact ⟨rfl, B1.it.trans ((drewN_keeps _ _).bel.mono B1.it.size)⟩
  · have h1 : ¬ most < 1 := by omega
    go_enter Tryd.func8, Tryd.ntmps8
    go_wp2_with (first | (go_at_call 14; refine F.it.mono ?_; rintro e w1 ⟨rfl, b1⟩; have B1 := Aside.mk b1; clear b1) | (go_at_call 9; refine (N.it _ B1.it).mono ?_; rintro e w2 ⟨rfl, n2, rfl⟩))
    go_ret
    exact ⟨rfl, B1.it.trans ((drewN_keeps _ _).bel.mono B1.it.size)⟩
set_option maxHeartbeats 4000000 in
set_option maxRecDepth 20000 in
theorem feedBounds_good (most : Int) (v : Value) (bs : List Int) (B : Base A w) (h1 : 1 ≤ most) (h2 : most ≤ 65536) (R : Rd w v bs) (hb : AreBytes bs) (hL : bs.length ≤ 140737488351232) :
    Calls Tryd.prog 8 #[.int .i64 most, v] w fun e w' => e = .returned (.bool true) ∧ Below w.heap.size w w' := by
  obtain ⟨q, L, c, rfl⟩ : ∃ q L c, v = .slice q L c := by obtain ⟨q, c, e⟩ := R.shape; exact ⟨q, _, c, e⟩
  have hLe : Aside (L = bs.length ∧ L ≤ c) := by
    obtain ⟨x, y, e⟩ := R.shape
    injection e with _ e _
    have := R.1.len
    rw [bv_length] at this
    exact ⟨e, by omega⟩
  have F := Aside.mk (fixed5 B)
  have N : Aside (∀ W, Below w.heap.size w W → _) := ⟨fun W hW => new_s (A := A) (w0 := w) (i := 1) (j := 2) (most := most) (w := W) (own := fun _ => 0) ⟨B, fun _ _ => rfl, hW, hW.size⟩ h1 h2⟩
  have HR := Aside.mk R
  have hb := Aside.mk hb
  have hLb : L ≤ 140737488351232 := by have := hLe.it.1; omega
  clear B R hL
  go_enter Tryd.func8, Tryd.ntmps8
  go_wp2_with (first | (go_at_call 14; refine F.it.mono ?_; rintro e w1 ⟨rfl, b1⟩; have B1 := Aside.mk b1; clear b1) | (go_at_call 9; refine (N.it _ B1.it).mono ?_; rintro e w2 ⟨p, own1, rfl, X1⟩))
  go_loopw [7] (fun a wr => ∃ (an : Nat) (own' : Nat → Nat) (hs : List Int), a = .int .i64 an ∧ an ≤ L ∧ Aside (Lw A w own' 1 2 p most hs none wr)) (fun a _ => L - (intOf a).toNat)
  case atStart => exact ⟨0, own1, [], rfl, Nat.zero_le _, ⟨⟨X1.it.1, X1.it.2.1⟩⟩⟩
  case round =>
    clear X1 N F
    obtain ⟨a, own2, hs, rfl, haL, X2⟩ := hrel
    obtain ⟨hbh, hlv⟩ := X2.it.b
    have hbd := live_bound hlv hbh h1
    have hwb := wants_bound hlv hbh h1 h2
    have hw0 := hlv.wants
    obtain ⟨m, hm⟩ : ∃ m, wantsP szN hs = m := ⟨_, rfl⟩
    obtain ⟨hh, hhe⟩ : ∃ n, Aside (hs.length = n) := ⟨_, ⟨rfl⟩⟩
    rw [hm] at hwb hw0
    rw [hhe.it] at hbd
    have hm := Aside.mk hm
    have hlv := Aside.mk hlv
    have hbh := Aside.mk hbh
    by_cases hlt : a < L
    · have hlt' : (a : Int) < (L : Int) := by omega
      have hb1 : ¬ (11 + most < (hh : Int)) := by omega
      have hm1 : ¬ ((m : Int) < 1) := by omega
      have hh0 : ¬ ((hh : Int) < 0) := by omega
      have HSB := hbh
      by_cases hm1' : m = 1
      · have hmg : ¬ ((1 : Int) < (m : Int)) := by omega
        have hmn : (m : Int) ≤ (L : Int) - (a : Int) := by omega
        have hmL : a + m ≤ L := by omega
        clear hm1'
        obtain ⟨seg, hseg⟩ : ∃ seg, Aside (seg = (bs.drop (a)).take (m)) := ⟨_, ⟨rfl⟩⟩
        have hsl : Aside (seg.length = m) := ⟨by rw [hseg.it]; have := hLe.it.1; simp <;> omega⟩
        have hsb : Aside (AreBytes seg) := ⟨hseg.it ▸ (hb.it.drop _).take _⟩
        have hsn : Aside ((hs).length + seg.length ≤ 1099511627776) := ⟨by have := hsl.it; have := hhe.it; have := live_bound hlv.it HSB.it h1; omega⟩
        have RG : Aside (∀ W, Below w.heap.size w W → Rd W (.slice (q.map (·.add a)) m (c - a)) seg) := ⟨fun W hW => by
          have r0 : RdS Nowhere W (.slice q L c) bs := HR.it.later hW
          have := (r0.seg (a := a) (n := m) (by have := hLe.it.1; omega)).rd
          rw [hseg.it]
          rwa [if_neg (show ¬ c = a by have := hLe.it.2; omega)] at this⟩
        obtain ⟨o2, ho2⟩ : ∃ o2, Aside (feedO most (hs) none seg = o2) := ⟨_, ⟨rfl⟩⟩
        have hup : o2.fs.length ≤ 1 ∧ (o2.dead ≠ none → o2.fs = []) := ho2.it ▸ feed_upto hlv.it (by rw [hsl.it]; rw [hm.it]; omega)
        have hg1 : ¬ (1 < (o2.fs.length : Int)) := by have := hup.1; omega
        have hbig : Aside (([] : List Int).length + seg.length ≤ 140737488355328) := ⟨by have := hsl.it; simp <;> omega⟩
        have hac : ¬ c = a := by have := hLe.it.2; omega
        have hmc : (a : Int) + (m : Int) ≤ (c : Int) := by have := hLe.it.2; omega
        have hml : (a : Int) + (m : Int) ≤ (L : Int) := by omega
        have hma : (a : Int) ≤ (a : Int) + (m : Int) := by omega
        cases hd2 : o2.dead with
        | none =>
          have hd2 := Aside.mk hd2
          go_wp2_with (first | (at_builtin; refine wpList_appendO rfl (.tmp 115) (.tmp 121) rfl (.slice (some ⟨w5.heap.size, 0, none⟩) 0 0) (.slice (q.map (·.add a)) m (c - a)) [] seg (owns_any (owns_empty w5 5)) (RG.it _ (X5.it.G.quiet ((Keeps.refl _ _).alloc _)).g.bel) hbig.it rfl (by first | rfl | simp [Act.eval]) ?_; intro r8 lr8 cr8 w8 or8 kr8 br8; have CE8 := Aside.mk (copy_end (own := own2) (i := 1) or8.it kr8.it br8.it)) | (go_at_call 17; refine (feed_bd X5.it CE8.it.1 _ seg CE8.it.2 hsb.it hsn.it o2 ho2.it).mono ?_; rintro e w9 ⟨gq, gc, ev9, own9, rfl, X9⟩; have hev : ev9 = .nilIface := (by have := X9.it.2; rw [hd2.it] at this; exact this); subst hev; have LN : Aside (Lw A w own9 1 2 p most o2.rest none w9) := ⟨by have := X9.it.1; rw [hd2.it] at this; exact this⟩) | (go_at_call 11; refine (held_l X4 hh hhe.it).mono ?_; rintro e w5 ⟨rfl, X5, _⟩) | (go_at_call 11; refine (held_l X3 hh hhe.it).mono ?_; rintro e w4 ⟨rfl, X4, _⟩) | (go_at_call 12; refine (wants_l X2 m hm.it).mono ?_; rintro e w3 ⟨rfl, X3, _⟩))
          go_round
          case rel => exact ⟨a + m, own9, o2.rest, by go_num, by omega, LN⟩
          case measure => simp [intOf]; omega
        | some h2 =>
          have hg0 : o2.fs.length = 0 := by rw [hup.2 (by rw [hd2]; simp)]; rfl
          obtain ⟨cd, hcd⟩ : ∃ cd, Aside (codeS most (some h2) = cd) := ⟨_, ⟨rfl⟩⟩
          have hd2 := Aside.mk hd2
          go_wp2_with (first | (at_builtin; refine wpList_appendO rfl (.tmp 115) (.tmp 121) rfl (.slice (some ⟨w5.heap.size, 0, none⟩) 0 0) (.slice (q.map (·.add a)) m (c - a)) [] seg (owns_any (owns_empty w5 5)) (RG.it _ (X5.it.G.quiet ((Keeps.refl _ _).alloc _)).g.bel) hbig.it rfl (by first | rfl | simp [Act.eval]) ?_; intro r8 lr8 cr8 w8 or8 kr8 br8; have CE8 := Aside.mk (copy_end (own := own2) (i := 1) or8.it kr8.it br8.it)) | (go_at_call 17; refine (feed_over LD.it _).mono ?_; rintro e w10 ⟨evo, rfl, X10⟩; have L10 := Aside.mk X10.it.1; have E10 := Aside.mk (ED.it.quiet X10.it.2.2); have O10 := Aside.mk X10.it.2.1) | (go_at_call 12; refine (wants_l L10 0 rfl).mono ?_; rintro e w11 ⟨rfl, L11, K11⟩; have E11 := Aside.mk (E10.it.quiet K11.it); have O11 := Aside.mk (O10.it.quiet K11.it)) | (go_at_call 11; refine (held_l L11 0 rfl).mono ?_; rintro e w12 ⟨rfl, L12, K12⟩; have E12 := Aside.mk (E11.it.quiet K12.it); have O12 := Aside.mk (O11.it.quiet K12.it)) | (go_at_call 13; refine (err_l L12).mono ?_; rintro e w13 ⟨ev13, rfl, V13, L13, K13⟩; have E13 := Aside.mk (E12.it.quiet K13.it)) | (go_at_call_of 10 ev13; refine (code_l L13 V13 cd hcd.it).mono ?_; rintro e w16 ⟨rfl, rfl⟩) | (go_at_call_of 10 evo; refine (code_l L12 O12 cd hcd.it).mono ?_; rintro e w14 ⟨rfl, rfl⟩) | (go_at_call_of 10 vb9; first | (refine (code_l L13 E13 cd hcd.it).mono ?_; rintro e w15 ⟨rfl, rfl⟩) | (refine (code_l L12 E12 cd hcd.it).mono ?_; rintro e w15 ⟨rfl, rfl⟩)) | (go_at_call 17; refine (feed_bd X5.it CE8.it.1 _ seg CE8.it.2 hsb.it hsn.it o2 ho2.it).mono ?_; rintro e w9 ⟨gq, gc, ev9, own9, rfl, X9⟩; obtain ⟨vb9, rfl, _⟩ : ∃ vb, ev9 = vio vb ∧ True := (by have := X9.it.2; rw [hd2.it] at this; obtain ⟨vb, e, _⟩ := this; exact ⟨vb, e, trivial⟩); have LD : Aside (Lw A w own9 1 2 p most o2.rest (some h2) w9) := ⟨by have := X9.it.1; rw [hd2.it] at this; exact this⟩; have ED : Aside (ErrS A own9 2 w9 most (vio vb9) (some h2)) := ⟨by have := X9.it.2; rw [hd2.it] at this; exact this⟩) | (go_at_call 11; refine (held_l X4 hh hhe.it).mono ?_; rintro e w5 ⟨rfl, X5, _⟩) | (go_at_call 11; refine (held_l X3 hh hhe.it).mono ?_; rintro e w4 ⟨rfl, X4, _⟩) | (go_at_call 12; refine (wants_l X2 m hm.it).mono ?_; rintro e w3 ⟨rfl, X3, _⟩))
          all_goals (go_ret; exact ⟨rfl, L13.it.G.g.bel⟩)
      · have hmg : (1 : Int) < (m : Int) := by omega
        by_cases hin : a + m - 1 ≤ L
        · obtain ⟨k, hk⟩ : ∃ k : Nat, Aside (m = k + 1 ∧ 1 ≤ k) := ⟨m - 1, ⟨by omega, by omega⟩⟩
          obtain ⟨a1, ha1⟩ : ∃ a1 : Nat, Aside (a1 = a + k) := ⟨_, ⟨rfl⟩⟩
          obtain ⟨hh2, hhh⟩ : ∃ n : Nat, Aside (n = hh + k) := ⟨_, ⟨rfl⟩⟩
          obtain ⟨r, hrr⟩ : ∃ r : Nat, Aside (a1 + r = L) := ⟨L - a1, ⟨by have := ha1.it; have := hk.it.1; omega⟩⟩
          have e1 : (m : Int) - 1 = (k : Int) := by have := hk.it.1; omega
          have e2 : (a : Int) + (m : Int) - 1 = (a1 : Int) := by have := hk.it.1; have := ha1.it; omega
          have e3 : (a : Int) + (k : Int) = (a1 : Int) := by have := ha1.it; omega
          have e4 : (hh : Int) + (m : Int) - 1 = (hh2 : Int) := by have := hk.it.1; have := hhh.it; omega
          have haL1 : (a1 : Int) ≤ (L : Int) := by have := hrr.it; omega
          have haa1 : (a : Int) ≤ (a1 : Int) := by have := ha1.it; omega
          have hac1 : (a1 : Int) ≤ (c : Int) := by have := hLe.it.2; have := hrr.it; omega
          have hac0 : ¬ c = a := by have := hLe.it.2; omega
          obtain ⟨seg1, hseg1⟩ : ∃ seg, Aside (seg = (bs.drop a).take (a1 - a)) := ⟨_, ⟨rfl⟩⟩
          have hsl1 : Aside (seg1.length = k) := ⟨by rw [hseg1.it]; have := hLe.it.1; have := ha1.it; simp <;> omega⟩
          have hsb1 : Aside (AreBytes seg1) := ⟨hseg1.it ▸ (hb.it.drop _).take _⟩
          have hsn1 : Aside (hs.length + seg1.length ≤ 1099511627776) := ⟨by have := hsl1.it; have := hk.it.1; have := hhe.it; omega⟩
          have hbig1 : Aside (([] : List Int).length + seg1.length ≤ 140737488355328) := ⟨by have := hsl1.it; have := hk.it.1; simp <;> omega⟩
          have RG1 : Aside (∀ W, Below w.heap.size w W → Rd W (.slice (q.map (·.add a)) (a1 - a) (c - a)) seg1) := ⟨fun W hW => by
            have r0 : RdS Nowhere W (.slice q L c) bs := HR.it.later hW
            have := (r0.seg (a := a) (n := a1 - a) (by have := hLe.it.1; omega)).rd
            rw [hseg1.it]
            rwa [if_neg hac0] at this⟩
          have hless : seg1.length < wantsP szN hs := by rw [hsl1.it, hm.it]; have := hk.it.1; omega
          have hfl : Aside (feedO most hs none seg1 = ⟨[], hs ++ seg1, none⟩) := ⟨feed_less hlv.it hless⟩
          have hlvA : Aside (Live (ckH most) szN (hs ++ seg1)) := ⟨(live_less hlv.it hless).1⟩
          have hw1 : Aside (wantsS (hs ++ seg1) none = 1) := ⟨(live_less hlv.it hless).2.trans (by rw [hsl1.it, hm.it]; have := hk.it.1; omega)⟩
          have hh2e : Aside (heldS (hs ++ seg1) none = hh2) := ⟨by show (hs ++ seg1).length = hh2; rw [List.length_append, hsl1.it, hhe.it]; exact hhh.it.symm⟩
          have HSB := Aside.mk (hbh.it.append hsb1.it)
          clear hin hless
          by_cases hr0 : r = 0
          · have e5 : (L : Int) - (a1 : Int) = 0 := by have := hrr.it; omega
            by_cases hca : c = a1
            · subst hca
              obtain ⟨seg, hseg⟩ : ∃ seg, Aside (seg = (bs.drop (c)).take (0)) := ⟨_, ⟨rfl⟩⟩
              have hsl : Aside (seg.length = 0) := ⟨by rw [hseg.it]; have := hLe.it.1; simp <;> omega⟩
              have hsb : Aside (AreBytes seg) := ⟨hseg.it ▸ (hb.it.drop _).take _⟩
              have hsn : Aside ((hs ++ seg1).length + seg.length ≤ 1099511627776) := ⟨by have := hsl.it; have := hhe.it; have := live_bound hlvA.it HSB.it h1; omega⟩
              have RG : Aside (∀ W, Below w.heap.size w W → Rd W (.slice q 0 0) seg) := ⟨fun W hW => by
                have r0 : RdS Nowhere W (.slice q L c) bs := HR.it.later hW
                have := (r0.seg (a := c) (n := 0) (by have := hLe.it.1; have := hrr.it; omega)).rd
                rw [hseg.it]
                rwa [if_pos rfl, Nat.sub_self] at this⟩
              obtain ⟨o2, ho2⟩ : ∃ o2, Aside (feedO most (hs ++ seg1) none seg = o2) := ⟨_, ⟨rfl⟩⟩
              have hup : o2.fs.length ≤ 1 ∧ (o2.dead ≠ none → o2.fs = []) := ho2.it ▸ feed_upto hlvA.it (by rw [hsl.it]; have hq : wantsP szN (hs ++ seg1) = 1 := hw1.it; omega)
              have hg1 : ¬ (1 < (o2.fs.length : Int)) := by have := hup.1; omega
              have hbig : Aside (([] : List Int).length + seg.length ≤ 140737488355328) := ⟨by have := hsl.it; simp <;> omega⟩
              have hlive0 : o2.dead = none := by rw [← ho2.it, feed_less hlvA.it (by rw [hsl.it]; exact hlvA.it.wants)]
              cases hd2 : o2.dead with
              | none =>
                have hd2 := Aside.mk hd2
                go_wp2_with (first | (at_builtin; refine wpList_appendO rfl (.tmp 115) (.tmp 121) rfl (.slice (some ⟨wC.heap.size, 0, none⟩) 0 0) (.slice q 0 0) [] seg (owns_any (owns_empty wC 5)) (RG.it _ (XC.it.G.quiet ((Keeps.refl _ _).alloc _)).g.bel) hbig.it rfl (by first | rfl | simp [Act.eval]) ?_; intro r8 lr8 cr8 w8 or8 kr8 br8; have CE8 := Aside.mk (copy_end (own := ownA) (i := 1) or8.it kr8.it br8.it)) | (go_at_call 17; refine (feed_bd XC.it CE8.it.1 _ seg CE8.it.2 hsb.it hsn.it o2 ho2.it).mono ?_; rintro e w9 ⟨gq, gc, ev9, own9, rfl, X9⟩; have hev : ev9 = .nilIface := (by have := X9.it.2; rw [hd2.it] at this; exact this); subst hev; have LN : Aside (Lw A w own9 1 2 p most o2.rest none w9) := ⟨by have := X9.it.1; rw [hd2.it] at this; exact this⟩) | (go_at_call 11; refine (held_l XB hh2 hh2e.it).mono ?_; rintro e wC ⟨rfl, XC, _⟩) | (go_at_call 12; refine (wants_l XA 1 hw1.it).mono ?_; rintro e wB ⟨rfl, XB, _⟩) | (go_at_call 17; refine (feed_bd X6.it CE6.it.1 _ seg1 CE6.it.2 hsb1.it hsn1.it ⟨[], hs ++ seg1, none⟩ hfl.it).mono ?_; rintro e wA ⟨gqA, gcA, evA, ownA, rfl, XAp⟩; obtain rfl : evA = .nilIface := XAp.it.2; have XA := Aside.mk XAp.it.1) | (at_builtin; refine wpList_appendO rfl (.tmp 70) (.tmp 77) rfl (.slice (some ⟨w6.heap.size, 0, none⟩) 0 0) (.slice (q.map (·.add a)) (c - a) (c - a)) [] seg1 (owns_any (owns_empty w6 5)) (RG1.it _ (X6.it.G.quiet ((Keeps.refl _ _).alloc _)).g.bel) hbig1.it rfl (by first | rfl | simp [Act.eval]) ?_; intro r6 lr6 cr6 w6b or6 kr6 br6; have CE6 := Aside.mk (copy_end (own := own2) (i := 1) or6.it kr6.it br6.it)) | (go_at_call 11; refine (held_l X5 hh hhe.it).mono ?_; rintro e w6 ⟨rfl, X6, _⟩) | (go_at_call 11; refine (held_l X4 hh hhe.it).mono ?_; rintro e w5 ⟨rfl, X5, _⟩) | (go_at_call 11; refine (held_l X3 hh hhe.it).mono ?_; rintro e w4 ⟨rfl, X4, _⟩) | (go_at_call 12; refine (wants_l X2 m hm.it).mono ?_; rintro e w3 ⟨rfl, X3, _⟩))
                go_round
                case rel => exact ⟨c, own9, o2.rest, by go_num, by omega, LN⟩
                case measure => simp [intOf]; omega
              | some h2 =>
                exact absurd hd2 (by have := hlive0; rw [this]; simp)
            · obtain ⟨seg, hseg⟩ : ∃ seg, Aside (seg = (bs.drop (a1)).take (0)) := ⟨_, ⟨rfl⟩⟩
              have hsl : Aside (seg.length = 0) := ⟨by rw [hseg.it]; have := hLe.it.1; simp <;> omega⟩
              have hsb : Aside (AreBytes seg) := ⟨hseg.it ▸ (hb.it.drop _).take _⟩
              have hsn : Aside ((hs ++ seg1).length + seg.length ≤ 1099511627776) := ⟨by have := hsl.it; have := hhe.it; have := live_bound hlvA.it HSB.it h1; omega⟩
              have RG : Aside (∀ W, Below w.heap.size w W → Rd W (.slice (q.map (·.add a1)) 0 (c - a1)) seg) := ⟨fun W hW => by
                have r0 : RdS Nowhere W (.slice q L c) bs := HR.it.later hW
                have := (r0.seg (a := a1) (n := 0) (by have := hLe.it.1; have := hrr.it; omega)).rd
                rw [hseg.it]
                rwa [if_neg hca] at this⟩
              obtain ⟨o2, ho2⟩ : ∃ o2, Aside (feedO most (hs ++ seg1) none seg = o2) := ⟨_, ⟨rfl⟩⟩
              have hup : o2.fs.length ≤ 1 ∧ (o2.dead ≠ none → o2.fs = []) := ho2.it ▸ feed_upto hlvA.it (by rw [hsl.it]; have hq : wantsP szN (hs ++ seg1) = 1 := hw1.it; omega)
              have hg1 : ¬ (1 < (o2.fs.length : Int)) := by have := hup.1; omega
              have hbig : Aside (([] : List Int).length + seg.length ≤ 140737488355328) := ⟨by have := hsl.it; simp <;> omega⟩
              have hlive0 : o2.dead = none := by rw [← ho2.it, feed_less hlvA.it (by rw [hsl.it]; exact hlvA.it.wants)]
              cases hd2 : o2.dead with
              | none =>
                have hd2 := Aside.mk hd2
                go_wp2_with (first | (at_builtin; refine wpList_appendO rfl (.tmp 115) (.tmp 121) rfl (.slice (some ⟨wC.heap.size, 0, none⟩) 0 0) (.slice (q.map (·.add a1)) 0 (c - a1)) [] seg (owns_any (owns_empty wC 5)) (RG.it _ (XC.it.G.quiet ((Keeps.refl _ _).alloc _)).g.bel) hbig.it rfl (by first | rfl | simp [Act.eval]) ?_; intro r8 lr8 cr8 w8 or8 kr8 br8; have CE8 := Aside.mk (copy_end (own := ownA) (i := 1) or8.it kr8.it br8.it)) | (go_at_call 17; refine (feed_bd XC.it CE8.it.1 _ seg CE8.it.2 hsb.it hsn.it o2 ho2.it).mono ?_; rintro e w9 ⟨gq, gc, ev9, own9, rfl, X9⟩; have hev : ev9 = .nilIface := (by have := X9.it.2; rw [hd2.it] at this; exact this); subst hev; have LN : Aside (Lw A w own9 1 2 p most o2.rest none w9) := ⟨by have := X9.it.1; rw [hd2.it] at this; exact this⟩) | (go_at_call 11; refine (held_l XB hh2 hh2e.it).mono ?_; rintro e wC ⟨rfl, XC, _⟩) | (go_at_call 12; refine (wants_l XA 1 hw1.it).mono ?_; rintro e wB ⟨rfl, XB, _⟩) | (go_at_call 17; refine (feed_bd X6.it CE6.it.1 _ seg1 CE6.it.2 hsb1.it hsn1.it ⟨[], hs ++ seg1, none⟩ hfl.it).mono ?_; rintro e wA ⟨gqA, gcA, evA, ownA, rfl, XAp⟩; obtain rfl : evA = .nilIface := XAp.it.2; have XA := Aside.mk XAp.it.1) | (at_builtin; refine wpList_appendO rfl (.tmp 70) (.tmp 77) rfl (.slice (some ⟨w6.heap.size, 0, none⟩) 0 0) (.slice (q.map (·.add a)) (a1 - a) (c - a)) [] seg1 (owns_any (owns_empty w6 5)) (RG1.it _ (X6.it.G.quiet ((Keeps.refl _ _).alloc _)).g.bel) hbig1.it rfl (by first | rfl | simp [Act.eval]) ?_; intro r6 lr6 cr6 w6b or6 kr6 br6; have CE6 := Aside.mk (copy_end (own := own2) (i := 1) or6.it kr6.it br6.it)) | (go_at_call 11; refine (held_l X5 hh hhe.it).mono ?_; rintro e w6 ⟨rfl, X6, _⟩) | (go_at_call 11; refine (held_l X4 hh hhe.it).mono ?_; rintro e w5 ⟨rfl, X5, _⟩) | (go_at_call 11; refine (held_l X3 hh hhe.it).mono ?_; rintro e w4 ⟨rfl, X4, _⟩) | (go_at_call 12; refine (wants_l X2 m hm.it).mono ?_; rintro e w3 ⟨rfl, X3, _⟩))
                go_round
                case rel => exact ⟨a1, own9, o2.rest, by go_num, by omega, LN⟩
                case measure => simp [intOf]; omega
              | some h2 =>
                exact absurd hd2 (by have := hlive0; rw [this]; simp)
          · have e5 : (L : Int) - (a1 : Int) = (r : Int) := by have := hrr.it; omega
            have hr1 : (1 : Int) ≤ (r : Int) := by omega
            have hmc : (a1 : Int) + 1 ≤ (c : Int) := by have := hLe.it.2; have := hrr.it; omega
            have hml : (a1 : Int) + 1 ≤ (L : Int) := by have := hrr.it; omega
            have hca : ¬ c = a1 := by have := hLe.it.2; have := hrr.it; omega
            obtain ⟨seg, hseg⟩ : ∃ seg, Aside (seg = (bs.drop (a1)).take (1)) := ⟨_, ⟨rfl⟩⟩
            have hsl : Aside (seg.length = 1) := ⟨by rw [hseg.it]; have := hLe.it.1; simp <;> omega⟩
            have hsb : Aside (AreBytes seg) := ⟨hseg.it ▸ (hb.it.drop _).take _⟩
            have hsn : Aside ((hs ++ seg1).length + seg.length ≤ 1099511627776) := ⟨by have := hsl.it; have := hhe.it; have := live_bound hlvA.it HSB.it h1; omega⟩
            have RG : Aside (∀ W, Below w.heap.size w W → Rd W (.slice (q.map (·.add a1)) 1 (c - a1)) seg) := ⟨fun W hW => by
              have r0 : RdS Nowhere W (.slice q L c) bs := HR.it.later hW
              have := (r0.seg (a := a1) (n := 1) (by have := hLe.it.1; have := hrr.it; omega)).rd
              rw [hseg.it]
              rwa [if_neg hca] at this⟩
            obtain ⟨o2, ho2⟩ : ∃ o2, Aside (feedO most (hs ++ seg1) none seg = o2) := ⟨_, ⟨rfl⟩⟩
            have hup : o2.fs.length ≤ 1 ∧ (o2.dead ≠ none → o2.fs = []) := ho2.it ▸ feed_upto hlvA.it (by rw [hsl.it]; have hq : wantsP szN (hs ++ seg1) = 1 := hw1.it; omega)
            have hg1 : ¬ (1 < (o2.fs.length : Int)) := by have := hup.1; omega
            have hbig : Aside (([] : List Int).length + seg.length ≤ 140737488355328) := ⟨by have := hsl.it; simp <;> omega⟩
            cases hd2 : o2.dead with
            | none =>
              have hd2 := Aside.mk hd2
              go_wp2_with (first | (at_builtin; refine wpList_appendO rfl (.tmp 115) (.tmp 121) rfl (.slice (some ⟨wC.heap.size, 0, none⟩) 0 0) (.slice (q.map (·.add a1)) 1 (c - a1)) [] seg (owns_any (owns_empty wC 5)) (RG.it _ (XC.it.G.quiet ((Keeps.refl _ _).alloc _)).g.bel) hbig.it rfl (by first | rfl | simp [Act.eval]) ?_; intro r8 lr8 cr8 w8 or8 kr8 br8; have CE8 := Aside.mk (copy_end (own := ownA) (i := 1) or8.it kr8.it br8.it)) | (go_at_call 17; refine (feed_bd XC.it CE8.it.1 _ seg CE8.it.2 hsb.it hsn.it o2 ho2.it).mono ?_; rintro e w9 ⟨gq, gc, ev9, own9, rfl, X9⟩; have hev : ev9 = .nilIface := (by have := X9.it.2; rw [hd2.it] at this; exact this); subst hev; have LN : Aside (Lw A w own9 1 2 p most o2.rest none w9) := ⟨by have := X9.it.1; rw [hd2.it] at this; exact this⟩) | (go_at_call 11; refine (held_l XB hh2 hh2e.it).mono ?_; rintro e wC ⟨rfl, XC, _⟩) | (go_at_call 12; refine (wants_l XA 1 hw1.it).mono ?_; rintro e wB ⟨rfl, XB, _⟩) | (go_at_call 17; refine (feed_bd X6.it CE6.it.1 _ seg1 CE6.it.2 hsb1.it hsn1.it ⟨[], hs ++ seg1, none⟩ hfl.it).mono ?_; rintro e wA ⟨gqA, gcA, evA, ownA, rfl, XAp⟩; obtain rfl : evA = .nilIface := XAp.it.2; have XA := Aside.mk XAp.it.1) | (at_builtin; refine wpList_appendO rfl (.tmp 70) (.tmp 77) rfl (.slice (some ⟨w6.heap.size, 0, none⟩) 0 0) (.slice (q.map (·.add a)) (a1 - a) (c - a)) [] seg1 (owns_any (owns_empty w6 5)) (RG1.it _ (X6.it.G.quiet ((Keeps.refl _ _).alloc _)).g.bel) hbig1.it rfl (by first | rfl | simp [Act.eval]) ?_; intro r6 lr6 cr6 w6b or6 kr6 br6; have CE6 := Aside.mk (copy_end (own := own2) (i := 1) or6.it kr6.it br6.it)) | (go_at_call 11; refine (held_l X5 hh hhe.it).mono ?_; rintro e w6 ⟨rfl, X6, _⟩) | (go_at_call 11; refine (held_l X4 hh hhe.it).mono ?_; rintro e w5 ⟨rfl, X5, _⟩) | (go_at_call 11; refine (held_l X3 hh hhe.it).mono ?_; rintro e w4 ⟨rfl, X4, _⟩) | (go_at_call 12; refine (wants_l X2 m hm.it).mono ?_; rintro e w3 ⟨rfl, X3, _⟩))
              go_round
              case rel => exact ⟨a1 + 1, own9, o2.rest, by go_num, by omega, LN⟩
              case measure => simp [intOf]; omega
            | some h2 =>
              have hg0 : o2.fs.length = 0 := by rw [hup.2 (by rw [hd2]; simp)]; rfl
              obtain ⟨cd, hcd⟩ : ∃ cd, Aside (codeS most (some h2) = cd) := ⟨_, ⟨rfl⟩⟩
              have hd2 := Aside.mk hd2
              go_wp2_with (first | (at_builtin; refine wpList_appendO rfl (.tmp 115) (.tmp 121) rfl (.slice (some ⟨wC.heap.size, 0, none⟩) 0 0) (.slice (q.map (·.add a1)) 1 (c - a1)) [] seg (owns_any (owns_empty wC 5)) (RG.it _ (XC.it.G.quiet ((Keeps.refl _ _).alloc _)).g.bel) hbig.it rfl (by first | rfl | simp [Act.eval]) ?_; intro r8 lr8 cr8 w8 or8 kr8 br8; have CE8 := Aside.mk (copy_end (own := ownA) (i := 1) or8.it kr8.it br8.it)) | (go_at_call 17; refine (feed_over LD.it _).mono ?_; rintro e w10 ⟨evo, rfl, X10⟩; have L10 := Aside.mk X10.it.1; have E10 := Aside.mk (ED.it.quiet X10.it.2.2); have O10 := Aside.mk X10.it.2.1) | (go_at_call 12; refine (wants_l L10 0 rfl).mono ?_; rintro e w11 ⟨rfl, L11, K11⟩; have E11 := Aside.mk (E10.it.quiet K11.it); have O11 := Aside.mk (O10.it.quiet K11.it)) | (go_at_call 11; refine (held_l L11 0 rfl).mono ?_; rintro e w12 ⟨rfl, L12, K12⟩; have E12 := Aside.mk (E11.it.quiet K12.it); have O12 := Aside.mk (O11.it.quiet K12.it)) | (go_at_call 13; refine (err_l L12).mono ?_; rintro e w13 ⟨ev13, rfl, V13, L13, K13⟩; have E13 := Aside.mk (E12.it.quiet K13.it)) | (go_at_call_of 10 ev13; refine (code_l L13 V13 cd hcd.it).mono ?_; rintro e w16 ⟨rfl, rfl⟩) | (go_at_call_of 10 evo; refine (code_l L12 O12 cd hcd.it).mono ?_; rintro e w14 ⟨rfl, rfl⟩) | (go_at_call_of 10 vb9; first | (refine (code_l L13 E13 cd hcd.it).mono ?_; rintro e w15 ⟨rfl, rfl⟩) | (refine (code_l L12 E12 cd hcd.it).mono ?_; rintro e w15 ⟨rfl, rfl⟩)) | (go_at_call 17; refine (feed_bd XC.it CE8.it.1 _ seg CE8.it.2 hsb.it hsn.it o2 ho2.it).mono ?_; rintro e w9 ⟨gq, gc, ev9, own9, rfl, X9⟩; obtain ⟨vb9, rfl, _⟩ : ∃ vb, ev9 = vio vb ∧ True := (by have := X9.it.2; rw [hd2.it] at this; obtain ⟨vb, e, _⟩ := this; exact ⟨vb, e, trivial⟩); have LD : Aside (Lw A w own9 1 2 p most o2.rest (some h2) w9) := ⟨by have := X9.it.1; rw [hd2.it] at this; exact this⟩; have ED : Aside (ErrS A own9 2 w9 most (vio vb9) (some h2)) := ⟨by have := X9.it.2; rw [hd2.it] at this; exact this⟩) | (go_at_call 11; refine (held_l XB hh2 hh2e.it).mono ?_; rintro e wC ⟨rfl, XC, _⟩) | (go_at_call 12; refine (wants_l XA 1 hw1.it).mono ?_; rintro e wB ⟨rfl, XB, _⟩) | (go_at_call 17; refine (feed_bd X6.it CE6.it.1 _ seg1 CE6.it.2 hsb1.it hsn1.it ⟨[], hs ++ seg1, none⟩ hfl.it).mono ?_; rintro e wA ⟨gqA, gcA, evA, ownA, rfl, XAp⟩; obtain rfl : evA = .nilIface := XAp.it.2; have XA := Aside.mk XAp.it.1) | (at_builtin; refine wpList_appendO rfl (.tmp 70) (.tmp 77) rfl (.slice (some ⟨w6.heap.size, 0, none⟩) 0 0) (.slice (q.map (·.add a)) (a1 - a) (c - a)) [] seg1 (owns_any (owns_empty w6 5)) (RG1.it _ (X6.it.G.quiet ((Keeps.refl _ _).alloc _)).g.bel) hbig1.it rfl (by first | rfl | simp [Act.eval]) ?_; intro r6 lr6 cr6 w6b or6 kr6 br6; have CE6 := Aside.mk (copy_end (own := own2) (i := 1) or6.it kr6.it br6.it)) | (go_at_call 11; refine (held_l X5 hh hhe.it).mono ?_; rintro e w6 ⟨rfl, X6, _⟩) | (go_at_call 11; refine (held_l X4 hh hhe.it).mono ?_; rintro e w5 ⟨rfl, X5, _⟩) | (go_at_call 11; refine (held_l X3 hh hhe.it).mono ?_; rintro e w4 ⟨rfl, X4, _⟩) | (go_at_call 12; refine (wants_l X2 m hm.it).mono ?_; rintro e w3 ⟨rfl, X3, _⟩))
              all_goals (go_ret; exact ⟨rfl, L13.it.G.g.bel⟩)

        · have hin' : ¬ ((a : Int) + (m : Int) - 1 ≤ (L : Int)) := by omega
          obtain ⟨r, hr⟩ : ∃ r : Nat, (L : Int) - (a : Int) = (r : Int) := ⟨L - a, by omega⟩
          have hrm : (r : Int) < (m : Int) := by omega
          have hrm' : ¬ ((m : Int) ≤ (r : Int)) := by omega
          obtain ⟨seg, hseg⟩ : ∃ seg, Aside (seg = (bs.drop (a)).take (r)) := ⟨_, ⟨rfl⟩⟩
          have hsl : Aside (seg.length = r) := ⟨by rw [hseg.it]; have := hLe.it.1; simp <;> omega⟩
          have hsb : Aside (AreBytes seg) := ⟨hseg.it ▸ (hb.it.drop _).take _⟩
          have hsn : Aside ((hs).length + seg.length ≤ 1099511627776) := ⟨by have := hsl.it; have := hhe.it; have := live_bound hlv.it HSB.it h1; omega⟩
          have RG : Aside (∀ W, Below w.heap.size w W → Rd W (.slice (q.map (·.add a)) r (c - a)) seg) := ⟨fun W hW => by
            have r0 : RdS Nowhere W (.slice q L c) bs := HR.it.later hW
            have := (r0.seg (a := a) (n := r) (by have := hLe.it.1; omega)).rd
            rw [hseg.it]
            rwa [if_neg (show ¬ c = a by have := hLe.it.2; omega)] at this⟩
          obtain ⟨o2, ho2⟩ : ∃ o2, Aside (feedO most (hs) none seg = o2) := ⟨_, ⟨rfl⟩⟩
          have hup : o2.fs.length ≤ 1 ∧ (o2.dead ≠ none → o2.fs = []) := ho2.it ▸ feed_upto hlv.it (by rw [hsl.it]; rw [hm.it]; omega)
          have hg1 : ¬ (1 < (o2.fs.length : Int)) := by have := hup.1; omega
          have hbig : Aside (([] : List Int).length + seg.length ≤ 140737488355328) := ⟨by have := hsl.it; simp <;> omega⟩
          have hac : ¬ c = a := by have := hLe.it.2; omega
          have hmc : (a : Int) + (r : Int) ≤ (c : Int) := by have := hLe.it.2; omega
          have hml : (a : Int) + (r : Int) ≤ (L : Int) := by omega
          have hma : (a : Int) ≤ (a : Int) + (r : Int) := by omega
          cases hd2 : o2.dead with
          | none =>
            have hd2 := Aside.mk hd2
            go_wp2_with (first | (at_builtin; refine wpList_appendO rfl (.tmp 115) (.tmp 121) rfl (.slice (some ⟨w5.heap.size, 0, none⟩) 0 0) (.slice (q.map (·.add a)) r (c - a)) [] seg (owns_any (owns_empty w5 5)) (RG.it _ (X5.it.G.quiet ((Keeps.refl _ _).alloc _)).g.bel) hbig.it rfl (by first | rfl | simp [Act.eval]) ?_; intro r8 lr8 cr8 w8 or8 kr8 br8; have CE8 := Aside.mk (copy_end (own := own2) (i := 1) or8.it kr8.it br8.it)) | (go_at_call 17; refine (feed_bd X5.it CE8.it.1 _ seg CE8.it.2 hsb.it hsn.it o2 ho2.it).mono ?_; rintro e w9 ⟨gq, gc, ev9, own9, rfl, X9⟩; have hev : ev9 = .nilIface := (by have := X9.it.2; rw [hd2.it] at this; exact this); subst hev; have LN : Aside (Lw A w own9 1 2 p most o2.rest none w9) := ⟨by have := X9.it.1; rw [hd2.it] at this; exact this⟩) | (go_at_call 11; refine (held_l X4 hh hhe.it).mono ?_; rintro e w5 ⟨rfl, X5, _⟩) | (go_at_call 11; refine (held_l X3 hh hhe.it).mono ?_; rintro e w4 ⟨rfl, X4, _⟩) | (go_at_call 12; refine (wants_l X2 m hm.it).mono ?_; rintro e w3 ⟨rfl, X3, _⟩))
            go_round
            case rel => exact ⟨a + r, own9, o2.rest, by go_num, by omega, LN⟩
            case measure => simp [intOf]; omega
          | some h2 =>
            have hg0 : o2.fs.length = 0 := by rw [hup.2 (by rw [hd2]; simp)]; rfl
            obtain ⟨cd, hcd⟩ : ∃ cd, Aside (codeS most (some h2) = cd) := ⟨_, ⟨rfl⟩⟩
            have hd2 := Aside.mk hd2
            go_wp2_with (first | (at_builtin; refine wpList_appendO rfl (.tmp 115) (.tmp 121) rfl (.slice (some ⟨w5.heap.size, 0, none⟩) 0 0) (.slice (q.map (·.add a)) r (c - a)) [] seg (owns_any (owns_empty w5 5)) (RG.it _ (X5.it.G.quiet ((Keeps.refl _ _).alloc _)).g.bel) hbig.it rfl (by first | rfl | simp [Act.eval]) ?_; intro r8 lr8 cr8 w8 or8 kr8 br8; have CE8 := Aside.mk (copy_end (own := own2) (i := 1) or8.it kr8.it br8.it)) | (go_at_call 17; refine (feed_over LD.it _).mono ?_; rintro e w10 ⟨evo, rfl, X10⟩; have L10 := Aside.mk X10.it.1; have E10 := Aside.mk (ED.it.quiet X10.it.2.2); have O10 := Aside.mk X10.it.2.1) | (go_at_call 12; refine (wants_l L10 0 rfl).mono ?_; rintro e w11 ⟨rfl, L11, K11⟩; have E11 := Aside.mk (E10.it.quiet K11.it); have O11 := Aside.mk (O10.it.quiet K11.it)) | (go_at_call 11; refine (held_l L11 0 rfl).mono ?_; rintro e w12 ⟨rfl, L12, K12⟩; have E12 := Aside.mk (E11.it.quiet K12.it); have O12 := Aside.mk (O11.it.quiet K12.it)) | (go_at_call 13; refine (err_l L12).mono ?_; rintro e w13 ⟨ev13, rfl, V13, L13, K13⟩; have E13 := Aside.mk (E12.it.quiet K13.it)) | (go_at_call_of 10 ev13; refine (code_l L13 V13 cd hcd.it).mono ?_; rintro e w16 ⟨rfl, rfl⟩) | (go_at_call_of 10 evo; refine (code_l L12 O12 cd hcd.it).mono ?_; rintro e w14 ⟨rfl, rfl⟩) | (go_at_call_of 10 vb9; first | (refine (code_l L13 E13 cd hcd.it).mono ?_; rintro e w15 ⟨rfl, rfl⟩) | (refine (code_l L12 E12 cd hcd.it).mono ?_; rintro e w15 ⟨rfl, rfl⟩)) | (go_at_call 17; refine (feed_bd X5.it CE8.it.1 _ seg CE8.it.2 hsb.it hsn.it o2 ho2.it).mono ?_; rintro e w9 ⟨gq, gc, ev9, own9, rfl, X9⟩; obtain ⟨vb9, rfl, _⟩ : ∃ vb, ev9 = vio vb ∧ True := (by have := X9.it.2; rw [hd2.it] at this; obtain ⟨vb, e, _⟩ := this; exact ⟨vb, e, trivial⟩); have LD : Aside (Lw A w own9 1 2 p most o2.rest (some h2) w9) := ⟨by have := X9.it.1; rw [hd2.it] at this; exact this⟩; have ED : Aside (ErrS A own9 2 w9 most (vio vb9) (some h2)) := ⟨by have := X9.it.2; rw [hd2.it] at this; exact this⟩) | (go_at_call 11; refine (held_l X4 hh hhe.it).mono ?_; rintro e w5 ⟨rfl, X5, _⟩) | (go_at_call 11; refine (held_l X3 hh hhe.it).mono ?_; rintro e w4 ⟨rfl, X4, _⟩) | (go_at_call 12; refine (wants_l X2 m hm.it).mono ?_; rintro e w3 ⟨rfl, X3, _⟩))
            all_goals (go_ret; exact ⟨rfl, L13.it.G.g.bel⟩)
    · have hlt' : ¬ ((a : Int) < (L : Int)) := by omega
      have hb1 : (hh : Int) ≤ 11 + most := hbd
      have hm1 : (1 : Int) ≤ (m : Int) := by omega
      go_wp2_with (first
        | (go_at_call 11; refine (held_l X2 hh hhe.it).mono ?_; rintro e w3 ⟨rfl, X3, _⟩)
        | (go_at_call 12; refine (wants_l X3 m hm.it).mono ?_; rintro e w4 ⟨rfl, X4, _⟩))
      go_ret
      exact ⟨rfl, X4.it.G.g.bel⟩
end
theorem feedBounds_walk {A : Nat → Addr} (most : Int) (v : Value) (bs : List Int) (w : World) (B : Base A w) (hz : BytesArg w v bs) :
    Calls Tryd.prog 8 #[.int .i64 most, v] w fun e w' => e = .returned (.bool true) ∧ Below w.heap.size w w' := by
  by_cases h : 1 ≤ most ∧ most ≤ 65536
  · exact feedBounds_good most v bs B h.1 h.2 hz.1 hz.2.1 hz.2.2
  · exact feedBounds_bad most v B (by omega)
end Go.Proofs.YtigcfonlcknpaaaDoor

/-
  package msg: Feed
-/
import Derived.Test.YtnocalkloinbbaaDoorMgB
import Derived.Test.YtnocalkloinbbaaDoorMgC
import Derived.WalkMore
namespace Go.Proofs.YtnocalkloinbbaaDoor
open Go.RowKit

section
variable {A : Nat → Addr} {w w' W w0 : World} {own own' : Nat → Nat} {i j d d2 p most : Nat} {h B bs l0 : List Int} {z : Bool} {v : Value} {I : Nat → Prop}
theorem OnG.sx (h : OnG A w0 own w) (s : Sx I own w own' w') (hi : ¬ I 0) : OnG A w0 own' w' := ⟨h.g.sx s hi, h.s⟩
/-- who owns what while a reader is fed: the reader i and i + 1, the bytes j, the row of the messages d, the messages d2 and above -/
structure Who (i j d d2 : Nat) : Prop where
  i0 : i ≠ 0
  ji : j ≠ i
  ji1 : j ≠ i + 1
  jd : j ≠ d
  d0 : d ≠ 0
  di : d ≠ i
  di1 : d ≠ i + 1
  i2 : i + 1 < d2
  dd : d < d2
def WhoI (i d : Nat) (k : Nat) : Prop := k = i ∨ k = i + 1 ∨ k = d
/-- a round of Feed -/
structure FdI (A : Nat → Addr) (w0 : World) (own0 : Nat → Nat) (w : World) (i j d d2 p most : Nat) (l0 bs0 : List Int) (own : Nat → Nat) (W : World) (h : List Int) (z : Bool) (B : List Int) (v bv fv : Value) (bs : List Int) (ms : List (List Int)) : Prop where
  g : OnG A w0 own W
  b : RdO own j W bv bs
  r : RdrI own i W p most h z B v
  m : RowM own d d2 W fv ms
  s : Sx (WhoI i d) own0 w own W
  byt : AreBytes bs
  eq : parseM most (l0 ++ bs0) = ⟨ms ++ (parseM most (h ++ B ++ bs)).ms, (parseM most (h ++ B ++ bs)).rest, (parseM most (h ++ B ++ bs)).dead⟩
  len : ms.length + (h ++ B ++ bs).length ≤ (l0 ++ bs0).length
section
variable {own0 : Nat → Nat} {bs0 : List Int} {bv fv : Value} {ms : List (List Int)}
theorem WhoI.zero (wh : Who i j d d2) : ¬ WhoI i d 0 := by rintro (h | h | h); exact wh.i0 h.symm; omega; exact wh.d0 h.symm
theorem WhoI.far (wh : Who i j d d2) {k : Nat} (hk : d2 ≤ k) : ¬ (k = i ∨ k = i + 1) := by have := wh.i2; omega
theorem FdI.quiet (F : FdI A w0 own0 w i j d d2 p most l0 bs0 own W h z B v bv fv bs ms) (k : Keeps Nowhere W w') : FdI A w0 own0 w i j d d2 p most l0 bs0 own w' h z B v bv fv bs ms :=
  have s : Sx (fun _ => False) own W own w' := (Sn.same k).sx
  ⟨F.g.quiet k, F.b.sx s (fun x => x), F.r.quiet k, F.m.sx s (fun x => x) (fun _ _ x => x), F.s.trans (s.mono (fun _ x => x.elim)), F.byt, F.eq, F.len⟩
theorem FdI.whole {own1 own2 : Nat → Nat} {w1 w9 : World} {fv9 : Value} (wh : Who i j d d2) (F : FdI A w0 own0 w i j d d2 p most l0 bs0 own W h z B v bv fv bs ms) (hz : z = true) (hl : B.length = lenOf h) (r1 : RdrI own1 i w1 p most [] false [] (.slice none 0 0)) (s1 : Sx (fun k => k = i ∨ k = i + 1) own W own1 w1) (m9 : RowM own2 d d2 w9 fv9 (ms ++ [B])) (s9 : Sn (fun k => k = d) own1 w1 own2 w9) :
    FdI A w0 own0 w i j d d2 p most l0 bs0 own2 w9 [] false [] (.slice none 0 0) bv fv9 bs (ms ++ [B]) := by
  have s1' : Sx (WhoI i d) own W own1 w1 := s1.mono (fun k e => e.elim .inl (fun e => .inr (.inl e)))
  have s9' : Sx (WhoI i d) own1 w1 own2 w9 := s9.sx.mono (fun k e => .inr (.inr e))
  refine ⟨(F.g.sx s1' (WhoI.zero wh)).sx s9' (WhoI.zero wh), (F.b.sx s1 (by have := wh.ji; have := wh.ji1; omega)).sx s9.sx wh.jd, r1.sx s9.sx (fun e => wh.di e.symm) (fun e => wh.di1 e.symm), m9, (F.s.trans s1').trans s9', F.byt, ?_, ?_⟩
  · have e := F.eq
    subst hz
    rw [parse_whole F.r.part hl] at e
    rw [e]
    simp
  · have e := F.len
    have : 1 ≤ h.length := by subst hz; exact (hdM_pos F.r.part.1).1
    simp only [List.length_append, List.length_nil, List.length_cons] at e ⊢
    omega
theorem FdI.taken {own1 : Nat → Nat} {w1 : World} {v1 bv1 : Value} {k : Nat} (wh : Who i j d d2) (F : FdI A w0 own0 w i j d d2 p most l0 bs0 own W h true B v bv fv bs ms) (b1 : RdO own1 j w1 bv1 (bs.drop k)) (r1 : RdrI own1 i w1 p most h true (B ++ bs.take k) v1) (s1 : Sx (fun k => k = i ∨ k = i + 1) own W own1 w1) :
    FdI A w0 own0 w i j d d2 p most l0 bs0 own1 w1 h true (B ++ bs.take k) v1 bv1 fv (bs.drop k) ms := by
  have s1' : Sx (WhoI i d) own W own1 w1 := s1.mono (fun k e => e.elim .inl (fun e => .inr (.inl e)))
  have e1 : h ++ (B ++ bs.take k) ++ bs.drop k = h ++ B ++ bs := by rw [← List.append_assoc, List.append_assoc (h ++ B), List.take_append_drop]
  refine ⟨F.g.sx s1' (WhoI.zero wh), b1, r1, F.m.sx s1 (by have := wh.di; have := wh.di1; omega) (fun k hk => WhoI.far wh hk), F.s.trans s1', fun x hx => F.byt x (List.mem_of_mem_drop hx), ?_, ?_⟩
  · rw [e1]; exact F.eq
  · rw [e1]; exact F.len
theorem RdO.tail {x : Int} {t : List Int} {q : Option Addr} {l c : Nat} (h : RdO own j w (.slice q l c) (x :: t)) : RdO own j w (.slice (if c = 1 then q else q.map (fun x => x.add 1)) (l - 1) (c - 1)) t := RdO.drop (n := 1) h (by simp)
theorem FdI.measured {w1 : World} {bv1 : Value} {c : Int} {t : List Int} {z' : Bool} (wh : Who i j d d2) (F : FdI A w0 own0 w i j d d2 p most l0 bs0 own W h false [] v bv fv (c :: t) ms) (b1 : RdO own j w1 bv1 t) (r1 : RdrI own i w1 p most (h ++ [c]) z' [] v) (k1 : Keeps (fun b => own b = i) W w1) :
    FdI A w0 own0 w i j d d2 p most l0 bs0 own w1 (h ++ [c]) z' [] v bv1 fv t ms := by
  have s1 : Sx (fun k => k = i) own W own w1 := ⟨fun _ _ _ => rfl, k1⟩
  have s1' : Sx (WhoI i d) own W own w1 := s1.mono (fun k e => .inl e)
  have e1 : h ++ [c] ++ [] ++ t = h ++ [] ++ c :: t := by simp
  refine ⟨F.g.sx s1' (WhoI.zero wh), b1, r1, F.m.sx s1 wh.di (fun k hk => by have := wh.i2; omega), F.s.trans s1', fun x hx => F.byt x (List.mem_cons_of_mem _ hx), ?_, ?_⟩
  · rw [e1]; exact F.eq
  · rw [e1]; exact F.len
/-- a length that may not be -/
theorem FdI.died {w1 w2 : World} {c : Int} {t : List Int} {cs : List Value} (wh : Who i j d d2) (F : FdI A w0 own0 w i j d d2 p most l0 bs0 own W h false [] v bv fv (c :: t) ms) (hb : CellsO own i w1 p 48 cs) (k1 : Keeps (fun b => own b = i) W w1) (hbad : ∀ r, hdM most (h ++ c :: r) = some none) (k2 : Keeps (fun b => b = p) w1 w2) (hd : Cells w2 p 48 [.int .i64 0, .int .i64 0, .int .i64 0, .bool false, .slice none 0 0, .bool true]) :
    parseM most (l0 ++ bs0) = ⟨ms, [], true⟩ ∧ OnG A w0 own w2 ∧ RowM own d d2 w2 fv ms ∧ RdrO own i w2 p most [] true ∧ Sx (WhoI i d) own0 w own w2 := by
  have s1 : Sx (fun k => k = i) own W own w2 := ⟨fun _ _ _ => rfl, k1.next k2 (fun b e _ => by subst e; exact hb.2)⟩
  have s1' : Sx (WhoI i d) own W own w2 := s1.mono (fun k e => .inl e)
  refine ⟨?_, F.g.sx s1' (WhoI.zero wh), F.m.sx s1 wh.di (fun k hk => by have := wh.i2; omega), ⟨⟨hd, hb.2⟩, rfl⟩, F.s.trans s1'⟩
  rw [F.eq]
  have := hbad t
  simp only [List.append_nil]
  rw [parseM_bad this]
  simp
/-- no bytes any more -/
theorem FdI.over (F : FdI A w0 own0 w i j d d2 p most l0 bs0 own W h z B v bv fv [] ms) (hw : ¬ (z = true ∧ B.length = lenOf h)) : parseM most (l0 ++ bs0) = ⟨ms, h ++ B, false⟩ ∧ RdrO own i W p most (h ++ B) false := by
  refine ⟨?_, ⟨h, z, B, v, rfl, hw, F.r⟩⟩
  rw [F.eq]
  simp only [List.append_nil]
  rw [(part_live F.r.part hw).parse]
  simp
end
def lenV (v : Value) : Nat := match v with | .slice _ l _ => l | _ => 0
/-- what a Feed leaves -/
def FedR (A : Nat → Addr) (w0 : World) (own : Nat → Nat) (i d d2 p most : Nat) (o : MOut) (w : World) (e : Ending) (w' : World) : Prop := ∃ fq fl fc ev own', e = .returned (.tuple #[.slice fq fl fc, ev]) ∧ Hid (Coded A ev (codeM o)) ∧ Aside (OnG A w0 own' w' ∧ RowM own' d d2 w' (.slice fq fl fc) o.ms ∧ RdrO own' i w' p most o.rest o.dead ∧ Sx (WhoI i d) own w own' w')
set_option maxHeartbeats 4000000 in
theorem feedM_live {q : Option Addr} {l c : Nat} (G : OnG A w0 own w) (r : RdrO own i w p most l0 false) (R : RdO own j w (.slice q l c) bs) (hb : AreBytes bs) (wh : Who i j d d2) (hL : bs.length ≤ 2199023255552) : Calls Tryd.prog 8 #[ptr p, .slice q l c] w (FedR A w0 own i d d2 p most (parseM most (l0 ++ bs)) w) := by
  unfold RdrO at r
  simp only [Bool.false_eq_true, if_false] at r
  obtain ⟨h, z, B, v, rfl, hnw, r⟩ := r
  obtain ⟨_, _, _, _, _, c5⟩ := r.cells
  have hpl := part_len r.part
  have hmo := r.most
  obtain ⟨T, hT⟩ : ∃ T, (h ++ B ++ bs).length = T := ⟨_, rfl⟩
  have hTl : T ≤ 2199024304133 := by rw [← hT, List.length_append, List.length_append]; omega
  have F0 : Aside (FdI A w0 own w i j d d2 p most (h ++ B) bs own w h z B v (.slice q l c) (.slice none 0 0) bs []) := ⟨G, R, r, RowM.nil _ _ _ _, Sx.refl _ _ _, hb, by simp, by simp⟩
  have HT := Aside.mk hT
  obtain ⟨O, hO⟩ : ∃ O, parseM most (h ++ B ++ bs) = O := ⟨_, rfl⟩
  rw [hO]
  have HO := Aside.mk hO
  have WH := Aside.mk wh
  clear G r R hb wh hpl hmo hnw hT hL hO
  go_enter Tryd.func8, Tryd.ntmps8
  go_wp2
  apply wp_scope_straight
  go_wp2
  apply wp_label
  go_wp2_with fail

  go_loopw [1, 6, 7] (fun bv fv ev wr => ∃ (own' : Nat → Nat) (h' : List Int) (z' : Bool) (B' : List Int) (v' : Value) (q' : Option Addr) (l' c' : Nat) (fq : Option Addr) (fl fc : Nat) (bs' : List Int) (ms : List (List Int)), bv = .slice q' l' c' ∧ fv = .slice fq fl fc ∧ ev = .nilIface ∧ Aside (FdI A w0 own w i j d d2 p most (h ++ B) bs own' wr h' z' B' v' (.slice q' l' c') (.slice fq fl fc) bs' ms)) (fun bv fv _ _ => (T + 1 - lenV fv) + lenV bv)
  case atStart => exact ⟨own, h, z, B, v, q, l, c, none, 0, 0, bs, [], rfl, rfl, rfl, F0⟩
  case round =>
    obtain ⟨own', h', z', B', v', q', l', c', fq, fl, fc, bs', ms, rfl, rfl, rfl, F⟩ := hrel
    clear F0 c5
    have WM := Aside.mk (wholeM F.it.r)
    have hTT : ms.length + (h' ++ B' ++ bs').length ≤ T := by rw [← HT.it]; exact F.it.len
    simp only [List.length_append] at hTT
    obtain ⟨qf, cf, ef⟩ := F.it.m.shape
    obtain ⟨qb, cb, eb⟩ := F.it.b.1.shape
    have hfl : Aside (fl = ms.length) := ⟨by injection ef⟩
    have hbl : Aside (l' = bs'.length) := ⟨by injection eb⟩
    clear ef eb qf cf qb cb
    obtain ⟨nB, qv, cv, rfl⟩ : ∃ nB qv cv, v' = .slice qv nB cv := by obtain ⟨x, y, e⟩ := F.it.r.row.shape; exact ⟨_, x, y, e⟩
    by_cases hw : z' = true ∧ B'.length = lenOf h'
    · have hd : (z' && decide (B'.length = lenOf h')) = true := by simp [hw.1, hw.2]
      rw [hd] at WM
      have HW := Aside.mk hw
      have h1 : 1 ≤ h'.length := by have := (hdM_pos (hw.1 ▸ F.it.r.part).1).1; exact this
      have bnd : Aside ((ms.length + 1) * 24 ≤ 140737488355328) := ⟨by omega⟩
      have HH := Aside.mk (And.intro h1 hTT)
      clear hd hw h1 hTT
      go_wp2_with (first
        | (go_at_call 18; refine WM.it.mono ?_; clear WM; rintro e w1 ⟨rfl, m, rfl⟩; have F1 := Aside.mk (F.it.quiet ((Keeps.refl _ _).drewN m)); have LG := Aside.mk (letGoM F1.it.r (d2 + ms.length)))
        | (go_at_call 19; refine LG.it.mono ?_; clear LG; rintro e w2 ⟨rfl, own2, X2⟩; have M2 := Aside.mk (F1.it.m.sx X2.it.2.2.1 (by have := WH.it.di; have := WH.it.di1; omega) (fun k hk => WhoI.far WH.it hk)))
        | (at_builtin; refine wpList_appendM rfl (.tmp 23) (.tmp 26) rfl own2 d d2 WH.it.dd w2 _ ms B' M2.it X2.it.2.1 bnd.it rfl rfl rfl ?_; intro q9 l9 c9 w9 M9 S9)
        | fail)
      go_roundw
      case rel => exact ⟨_, [], false, [], .slice none 0 0, q', l', c', q9, l9, c9, bs', ms ++ [B'], rfl, rfl, rfl, ⟨FdI.whole WH.it F1.it HW.it.1 HW.it.2 X2.it.1 X2.it.2.2.1 M9.it S9.it⟩⟩
      case measure =>
        have e9 : l9 = ms.length + 1 := by
          obtain ⟨_, _, e⟩ := M9.it.shape
          injection e with _ e _
          rw [e, List.length_append]; rfl
        simp [lenV]
        have := hfl.it
        have := HH.it
        omega
    · have hd : (z' && decide (B'.length = lenOf h')) = false := by
        cases z' with
        | true => simp; exact fun e => hw ⟨rfl, e⟩
        | false => rfl
      rw [hd] at WM
      have HW := Aside.mk hw
      clear hd hw
      cases bs' with
      | nil =>
        have hl0 : l' = 0 := hbl.it
        subst hl0
        have FI : Aside (∀ m, FedR A w0 own i d d2 p most O w (.returned (.tuple #[.slice fq fl fc, .nilIface])) (wr.drewN m)) := ⟨fun m => by
          have F1 := F.it.quiet ((Keeps.refl _ _).drewN m)
          obtain ⟨e1, e2⟩ := F1.over HW.it
          rw [← HO.it, e1]
          exact ⟨fq, fl, fc, .nilIface, own', rfl, Coded.none, ⟨F1.g, F1.m, e2, F1.s⟩⟩⟩
        go_wp2_with (first | (go_at_call 18; refine WM.it.mono ?_; clear WM; rintro e w1 ⟨rfl, m, rfl⟩) | fail)
        go_ret2
        exact FI.it m
      | cons x t =>
        have hl1 : 1 ≤ l' := by rw [hbl.it]; simp
        have g0 : ((l' : Int) == 0) = false := by simp; omega
        have g1 : (l' == 0) = false := by simp; omega
        have g2 : (0 : Int) < (l' : Int) := by omega
        cases z' with
        | true =>
          have hlt : B'.length < lenOf h' := by
            have h1 := F.it.r.part.2
            have h2 : B'.length ≠ lenOf h' := fun e => HW.it ⟨rfl, e⟩
            omega
          have hbl2 : Aside ((x :: t).length ≤ 70368744177664) := ⟨by omega⟩
          clear hTT
          go_wp2_with (first
            | (go_at_call 18; refine WM.it.mono ?_; clear WM; rintro e w1 ⟨rfl, m, rfl⟩; have F1 := Aside.mk (F.it.quiet ((Keeps.refl _ _).drewN m)); obtain ⟨_, _, _, k3, _, _⟩ := F1.it.r.cells; have TK := Aside.mk (takeM F1.it.r F1.it.b ⟨WH.it.ji, WH.it.ji1⟩ (by simp) hlt hbl2.it))
            | (go_at_call 20; refine TK.it.mono ?_; clear TK; rintro e w2 ⟨q1, l1, c1, k, v1, own1, rfl, X⟩)
            | fail)
          go_roundw
          case rel =>
            obtain ⟨qv1, cv1, e1⟩ := X.it.2.2.2.1.row.shape
            exact ⟨own1, h', true, B' ++ (x :: t).take k, v1, q1, l1, c1, fq, fl, fc, (x :: t).drop k, ms, rfl, rfl, rfl, ⟨FdI.taken WH.it F1.it X.it.2.2.1 X.it.2.2.2.1 X.it.2.2.2.2.1⟩⟩
          case measure =>
            have e9 : l1 = ((x :: t).drop k).length := by
              obtain ⟨_, _, e⟩ := X.it.2.2.1.1.shape
              injection e
            rw [List.length_drop] at e9
            have := hbl.it
            have h1 := X.it.1
            have h2 := X.it.2.1
            simp [lenV] at *
            omega
        | false =>
          obtain rfl : B' = [] := F.it.r.part.2.2
          obtain ⟨gx, ox, cx, ex, _, hcx⟩ := Rd.at F.it.b.1 (by simp)
          injection ex with ex1 ex2 ex3
          subst ex1 ex3
          have k0 : wr.cell? ⟨gx, ox, none⟩ = some (.int .u8 x) := by have := hcx 0 (.int .u8 x) rfl; rw [Nat.add_zero] at this; exact this
          have hxb := F.it.byt x (by simp)
          have HX := Aside.mk hxb
          clear hTT hcx ex2 hxb
          go_upto_region 13 with (first
            | (go_at_call 18; refine WM.it.mono ?_; clear WM; rintro e w1 ⟨rfl, m, rfl⟩; have F1 := Aside.mk (F.it.quiet ((Keeps.refl _ _).drewN m)); obtain ⟨_, _, _, k3, _, _⟩ := F1.it.r.cells)
            | fail)
          have MS := Aside.mk (measure_any F1.it.r x HX.it.1 HX.it.2)
          go_cut [40] (fun bv wx => ∃ ok, bv = .bool (!ok) ∧ Aside (Meas own' i (wr.drewN m) p most h' x (.slice qv nB cv) ok wx))
          case first =>
            go_wp2_with (first
              | (go_at_call 21; refine MS.it.mono ?_; clear MS; rintro e w2 ⟨ok, rfl, X⟩)
              | fail)
            go_meet
            exact ⟨ok, by trivial, X⟩
          case rest =>
            obtain ⟨ok, rfl, X⟩ := hcut
            clear MS k0 k3
            cases ok with
            | true =>
              have R1 := X.it.yes rfl
              have sk : Sx (fun k => k = i) own' (wr.drewN m) own' wc := ⟨fun _ _ _ => rfl, X.it.k⟩
              have RT := RdO.tail (F1.it.b.sx sk WH.it.ji)
              have hcc : l' ≤ c' := by
                have := F.it.b.1.1.len
                rw [bv_length] at this
                omega
              have g3 : (1 : Int) ≤ (l' : Int) := by omega
              have g4 : (l' : Int) ≤ (c' : Int) := by omega
              have HR : Aside (∀ bv1, RdO own' j wc bv1 t → FdI A w0 own w i j d d2 p most (h ++ B) bs own' wc (h' ++ [x]) (decide (x < 128)) [] (.slice qv nB cv) bv1 (.slice fq fl fc) t ms) := ⟨fun bv1 hb1 => FdI.measured WH.it F1.it hb1 R1 X.it.k⟩
              have hlt : Aside (l' - 1 = t.length) := ⟨by have := hbl.it; simp only [List.length_cons] at this; omega⟩
              clear R1 sk hcc
              by_cases hc1 : c' = 1
              · rw [if_pos hc1] at RT
                have RT := Aside.mk RT
                subst hc1
                go_wp2_with fail
                go_roundw
                case rel => exact ⟨own', h' ++ [x], decide (x < 128), [], _, _, l' - 1, _, fq, fl, fc, t, ms, rfl, rfl, rfl, ⟨HR.it _ RT.it⟩⟩
                case measure => simp [lenV]; omega
              · rw [if_neg hc1] at RT
                have RT := Aside.mk RT
                go_wp2_with fail
                go_roundw
                case rel => exact ⟨own', h' ++ [x], decide (x < 128), [], _, _, l' - 1, _, fq, fl, fc, t, ms, rfl, rfl, rfl, ⟨HR.it _ RT.it⟩⟩
                case measure => simp [lenV]; omega
            | false =>
              obtain ⟨⟨cs, hcs, hcell⟩, hbad⟩ := X.it.no rfl
              obtain ⟨c0, c1, c2, c3, c4, c5, rfl⟩ : ∃ c0 c1 c2 c3 c4 c5, cs = [c0, c1, c2, c3, c4, c5] := by
                match cs, hcs with
                | [a0, a1, a2, a3, a4, a5], _ => exact ⟨a0, a1, a2, a3, a4, a5, rfl⟩
              have C6 := cells6 hcell.1 (.int .i64 0) (.int .i64 0) (.int .i64 0) (.bool false) (.slice none 0 0) (.bool true)
              have DD := FdI.died WH.it F1.it hcell X.it.k hbad C6.2 C6.1
              have FI : Aside (FedR A w0 own i d d2 p most O w (.returned (.tuple #[.slice fq fl fc, .iface 74 (.pointer (some (A 14)))])) (wc.setCells p 0 (#[.int .i64 0, .int .i64 0, .int .i64 0, .bool false, .slice none 0 0, .bool true] : Array Value).toList)) := ⟨by
                rw [← HO.it, DD.1]
                exact ⟨fq, fl, fc, _, own', rfl, Coded.mk 14 15 (by decide) (by decide) rfl, ⟨DD.2.1, DD.2.2.1, DD.2.2.2.1, DD.2.2.2.2⟩⟩⟩
              have sk : Sx (fun k => k = i) own' (wr.drewN m) own' wc := ⟨fun _ _ _ => rfl, X.it.k⟩
              have hc14 := (F1.it.g.sx sk (fun e => WH.it.i0 e.symm)).sents.cell 14 3 rfl
              have TH := Aside.mk (there6 hcell.1)
              have TI := Aside.mk (readerInfo (.int .i64 0) (.int .i64 0) (.int .i64 0) (.bool false) (.slice none 0 0) (.bool true))
              have TO : Aside ((#[.int .i64 0, .int .i64 0, .int .i64 0, .bool false, .slice none 0 0, .bool true] : Array Value).all (·.oneCell') = true) := ⟨by simp [Value.oneCell']⟩
              clear DD C6 sk hcell hbad hcs
              go_wp2_with (first | (refine wpList_store_mid rfl 48 _ _ rfl p 0 #[.int .i64 0, .int .i64 0, .int .i64 0, .bool false, .slice none 0 0, .bool true] rfl rfl TH.it TI.it TO.it ?_) | fail)
              go_ret2
              exact FI.it

end
end Go.Proofs.YtnocalkloinbbaaDoor

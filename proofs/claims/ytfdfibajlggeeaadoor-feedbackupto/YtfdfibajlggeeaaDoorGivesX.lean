/-
  layer 5's laws: 'gives', walked.
-/
import Derived.Test.YtfdfibajlggeeaaDoorGivesW
namespace Go.Proofs.YtfdfibajlggeeaaDoor
open Go.RowKit

section
variable {A : Nat → Addr} {own : Nat → Nat} {w w' : World} {p : Nat} {most : Int}
set_option maxHeartbeats 4000000 in
set_option maxRecDepth 20000 in
theorem gives_any (B : Base A w) (h1 : 1 ≤ most) (h2 : most ≤ 65536) (q : Option Addr) (L c : Nat) (bs : List Int) (R : Rd w (.slice q L c) bs) (hb : AreBytes bs) (hL : bs.length ≤ 16777216) (cq : Option Addr) (K cc : Nat) (zs : List Int) (C : Holds .i64 w (.slice cq K cc) zs) (hK : K ≤ 1048576) :
    Calls Tryd.prog 7 #[.int .i64 most, .slice q L c, .slice cq K cc] w fun e w' => ∃ fv ev p own', e = .returned (.tuple #[fv, ev, dPtr p]) ∧ Aside (Below w.heap.size w w' ∧ Gave A own' 1 2 p most (prs most bs) fv ev w') := by
  have N := Aside.mk (new_s (i := 1) (j := 2) (most := most) (Gr.start B) h1 h2)
  have hLe : Aside (L = bs.length ∧ L ≤ c) := by
    obtain ⟨x, y, e⟩ := R.shape
    injection e with _ e _
    have := R.1.len
    rw [bv_length] at this
    exact ⟨e, by omega⟩
  have HR := Aside.mk R
  have HC := Aside.mk C
  have hb := Aside.mk hb
  have hL := Aside.mk hL
  have hK := Aside.mk hK
  clear B R C h1 h2
  go_enter Tryd.func7, Tryd.ntmps7
  go_wp2_with (go_at_call 12; refine N.it.mono ?_; rintro e w1 ⟨p, own1, rfl, X1⟩)
  have S1 : Aside (GvAt A w own1 p most (prs most (bs.take 0)) (.slice none 0 0) .nilIface w1) := by
    have e : prs most (bs.take 0) = ⟨[], [], none⟩ := parse_short (by simp)
    rw [e]
    exact ⟨X1.it.1, X1.it.2.1, FramesO.none _ _ _, rfl⟩
  go_loopw [11, 12, 13, 14] (fun fr er a k wr => ∃ (an kn : Nat) (own' : Nat → Nat), a = .int .i64 an ∧ k = .int .i64 kn ∧ (∃ q l c, fr = .slice q l c) ∧ kn ≤ K + 1 ∧ Aside (an ≤ L ∧ (kn = K + 1 → an = L) ∧ GvAt A w own' p most (prs most (bs.take an)) fr er wr)) (fun _ _ _ k _ => K + 1 - (intOf k).toNat)
  case atStart => exact ⟨0, 0, own1, rfl, rfl, ⟨_, _, _, rfl⟩, by omega, ⟨by omega, by omega, S1.it⟩⟩
  case round =>
    clear S1 X1 N
    obtain ⟨a, k, own2, rfl, rfl, ⟨fq, fl, fc, rfl⟩, hk1, X2⟩ := hrel
    by_cases hkK : k = K + 1
    · subst hkK
      have ht : Aside (prs most (bs.take a) = prs most bs) := ⟨by rw [X2.it.2.1 rfl, hLe.it.1, List.take_length]⟩
      have hlt : ¬ ((K : Int) + 1 ≤ K) := by omega
      go_wp2_with fail
      refine bodyPost_ret (v := .tuple #[.slice fq fl fc, u12, dPtr p]) (by simp [results, Tryd.results7, go_sem]) rfl ?_
      exact ⟨_, _, _, rfl, _, ⟨X2.it.2.2.G.g.bel, ht.it ▸ X2.it.2.2.V⟩⟩
    · obtain ⟨o1, ho1⟩ : ∃ o1, Aside (prs most (bs.take a) = o1) := ⟨_, ⟨rfl⟩⟩
      have G1 : Aside (GvAt A w own2 p most o1 (.slice fq fl fc) u12 wr) := ⟨ho1.it ▸ X2.it.2.2⟩
      have hkK' : (k : Int) ≤ (K : Int) := by omega
      have haL : a ≤ L := X2.it.1
      have hLb : L ≤ 16777216 := by have := hLe.it.1; have := hL.it; omega
      go_upto_if 43 with fail
      go_cut [15] from 30 to 76 (fun n wx => ∃ m : Nat, n = .int .i64 m ∧ wx = wr ∧ a + m ≤ L ∧ Aside (k = K → a + m = L))
      case first =>
        by_cases hlt : k < K
        · obtain ⟨cb, co, rfl, hcells⟩ := HC.it.at64 (by omega)
          have hz : wr.cell? ⟨cb, co + k, none⟩ = some (.int .i64 (zs.getD k 0)) := by
            have := hcells k hlt
            rw [G1.it.G.g.bel.cell (World.block_lt_of_cell? w _ this)]
            exact this
          generalize zs.getD k 0 = z at hz
          have hlt' : (k : Int) < (K : Int) := by omega
          have hk0 : (0 : Int) ≤ (k : Int) := by omega
          clear hcells
          go_wp2_with fail
          all_goals go_meet
          all_goals (case rel => first
            | exact ⟨0, rfl, rfl, by omega, ⟨by omega⟩⟩
            | exact ⟨z.toNat, by rw [Int.toNat_of_nonneg (by omega)], rfl, by omega, ⟨by omega⟩⟩
            | exact ⟨L - a, by rw [Int.ofNat_sub haL], rfl, by omega, ⟨by omega⟩⟩)
        · have hlt' : ¬ (k : Int) < (K : Int) := by omega
          go_wp2_with fail
          go_meet
          case rel => exact ⟨L - a, by rw [Int.ofNat_sub haL], rfl, by omega, ⟨by omega⟩⟩
      case rest =>
        obtain ⟨m, rfl, rfl, hm, hkm⟩ := hcut
        obtain ⟨seg, hseg⟩ : ∃ seg, Aside (seg = (bs.drop a).take m) := ⟨_, ⟨rfl⟩⟩
        have hsl0 : seg.length = m := by rw [hseg.it]; have := hLe.it.1; simp; omega
        have hsb : Aside (AreBytes seg) := ⟨hseg.it ▸ (hb.it.drop a).take m⟩
        have hsl : Aside (([] : List Int).length + seg.length ≤ 140737488355328) := ⟨by simp; omega⟩
        have hsn : Aside (o1.rest.length + seg.length ≤ 1099511627776) := ⟨by have := prs_rest_len most (bs.take a); rw [ho1.it] at this; simp at this; omega⟩
        have RG0 : ∀ W, Keeps Nowhere wc W → Rd W (.slice (if c = a then q else q.map (·.add a)) m (c - a)) seg := fun W hk => by
          have r0 : RdS Nowhere W (.slice q L c) bs := (HR.it.later (G1.it.G.quiet hk).g.bel)
          have := (r0.seg (a := a) (n := m) (by have := hLe.it.1; omega)).rd
          rw [hseg.it]
          exact this
        have cnt : ∀ xs ys : List FX, xs.map (·.1) = o1.fs → ys.map (·.1) = (feedO most o1.rest o1.dead seg).fs → (xs.length + ys.length) * 40 ≤ 140737488355328 ∧ xs.length + ys.length ≤ maxLen := fun xs ys e1 e2 => by
          have l1 := congrArg List.length e1
          have l2 := congrArg List.length e2
          rw [List.length_map] at l1 l2
          have := parse_count (ck := ckH most) (sz := szN) (bs.take a ++ seg)
          have e3 : parse (ckH most) szN (bs.take a ++ seg) = _ := prs_step most (bs.take a) seg
          rw [e3, ho1.it] at this
          simp only [List.length_append, List.length_take] at this
          unfold maxLen
          omega
        have hmc : (a : Int) + (m : Int) ≤ (c : Int) := by have := hLe.it.2; omega
        have hma : (a : Int) ≤ (a : Int) + (m : Int) := by omega
        have hmm : a + m - a = m := by omega
        by_cases hca : c = a
        · obtain rfl : m = 0 := by have := hLe.it.2; omega
          have RG : Aside (∀ W, Keeps Nowhere wc W → Rd W (.slice q 0 0) seg) := ⟨fun W hk => by have := RG0 W hk; rwa [if_pos hca, hca, Nat.sub_self] at this⟩
          clear RG0
          subst hca
          cases hd1 : o1.dead with
          | none =>
            have hu : u12 = .nilIface := by have := G1.it.V.E; rw [hd1] at this; exact this
            subst hu
            cases hd2 : (feedO most o1.rest o1.dead seg).dead with
            | none =>
              have hd2 := Aside.mk hd2
              have hd1 := Aside.mk hd1
              go_wp2_with (first | (at_builtin; refine wpList_appendO rfl (.tmp 53) (.tmp 59) rfl (.slice (some ⟨wc.heap.size, 0, none⟩) 0 0) (.slice q 0 0) [] seg (owns_any (owns_empty wc 5)) (RG.it _ ((Keeps.refl _ _).alloc _)) hsl.it rfl (by first | rfl | simp [Act.eval]) ?_; intro q3 l3 c3 w3 o3 k3 b3; have CE := Aside.mk (copy_end (own := own2) (i := 1) o3.it k3.it b3.it)) | (go_at_call 13; refine (feed_gv G1.it CE.it.1 _ seg CE.it.2 hsb.it hsn.it).mono ?_; rintro e w4 ⟨gq, gl, gc, ev4, own4, rfl, M4⟩; have hev : ev4 = .nilIface := (by have := M4.it.E2; rw [hd2.it] at this; exact this); subst hev; obtain ⟨xs, y1, y2, y3, y4⟩ := M4.it.F1; obtain ⟨ys, z1, z2, z3, z4⟩ := M4.it.F2; have Y := Aside.mk (And.intro y1 (And.intro y2 (And.intro y3 y4))); have Z := Aside.mk (And.intro z1 (And.intro z2 (And.intro z3 z4))); clear y1 y2 y3 y4 z1 z2 z3 z4; have HB := Aside.mk (cnt xs ys Y.it.1 Z.it.1)) | (at_builtin; refine wpList_appendR rfl (.tmp 64) (.tmp 65) 22 rfl 31 _ 6 40 Tryd.underlying22 frameInfo rfl (by decide) w4 (Keeps.refl _ _) 0 _ _ _ Y.it.2.1 _ _ (fcells ys) (owns_readsK Z.it.2.1) (fcells_one' ys (fun x hx => (Z.it.2.2.2 x hx).one)) HB.it.1 HB.it.2 (Nat.zero_le _) rfl rfl ?_; intro v6 w6 o6 k6 b6; obtain ⟨q6, c6, rfl⟩ := owns_val o6.it))
              go_round
              case rel => exact ⟨c + 0, k + 1, _, by go_num, by go_num, ⟨_, _, _, rfl⟩, by omega, ⟨hm, fun h => hkm.it (by omega), by rw [take_more, prs_step, ho1.it, ← hseg.it]; exact gv_next M4.it Y.it.1 Y.it.2.1 Y.it.2.2.1 Y.it.2.2.2 Z.it.1 Z.it.2.2.2 o6.it k6.it b6.it _ (by rw [hd2.it]; exact rfl)⟩⟩
              case measure => simp [intOf]; omega
            | some h2 =>
              have hd2 := Aside.mk hd2
              have hd1 := Aside.mk hd1
              go_wp2_with (first | (at_builtin; refine wpList_appendO rfl (.tmp 53) (.tmp 59) rfl (.slice (some ⟨wc.heap.size, 0, none⟩) 0 0) (.slice q 0 0) [] seg (owns_any (owns_empty wc 5)) (RG.it _ ((Keeps.refl _ _).alloc _)) hsl.it rfl (by first | rfl | simp [Act.eval]) ?_; intro q3 l3 c3 w3 o3 k3 b3; have CE := Aside.mk (copy_end (own := own2) (i := 1) o3.it k3.it b3.it)) | (go_at_call 13; refine (feed_gv G1.it CE.it.1 _ seg CE.it.2 hsb.it hsn.it).mono ?_; rintro e w4 ⟨gq, gl, gc, ev4, own4, rfl, M4⟩; obtain ⟨vb4, rfl, _⟩ : ∃ vb, ev4 = vio vb ∧ True := (by have := M4.it.E2; rw [hd2.it] at this; obtain ⟨vb, e, _⟩ := this; exact ⟨vb, e, trivial⟩); obtain ⟨xs, y1, y2, y3, y4⟩ := M4.it.F1; obtain ⟨ys, z1, z2, z3, z4⟩ := M4.it.F2; have Y := Aside.mk (And.intro y1 (And.intro y2 (And.intro y3 y4))); have Z := Aside.mk (And.intro z1 (And.intro z2 (And.intro z3 z4))); clear y1 y2 y3 y4 z1 z2 z3 z4; have HB := Aside.mk (cnt xs ys Y.it.1 Z.it.1)) | (at_builtin; refine wpList_appendR rfl (.tmp 64) (.tmp 65) 22 rfl 31 _ 6 40 Tryd.underlying22 frameInfo rfl (by decide) w4 (Keeps.refl _ _) 0 _ _ _ Y.it.2.1 _ _ (fcells ys) (owns_readsK Z.it.2.1) (fcells_one' ys (fun x hx => (Z.it.2.2.2 x hx).one)) HB.it.1 HB.it.2 (Nat.zero_le _) rfl rfl ?_; intro v6 w6 o6 k6 b6; obtain ⟨q6, c6, rfl⟩ := owns_val o6.it))
              go_round
              case rel => exact ⟨c + 0, k + 1, _, by go_num, by go_num, ⟨_, _, _, rfl⟩, by omega, ⟨hm, fun h => hkm.it (by omega), by rw [take_more, prs_step, ho1.it, ← hseg.it]; exact gv_next M4.it Y.it.1 Y.it.2.1 Y.it.2.2.1 Y.it.2.2.2 Z.it.1 Z.it.2.2.2 o6.it k6.it b6.it _ M4.it.E2⟩⟩
              case measure => simp [intOf]; omega
          | some h1 =>
            obtain ⟨vb1, rfl, _⟩ : ∃ vb, u12 = vio vb ∧ True := by have := G1.it.V.E; rw [hd1] at this; obtain ⟨vb, e, _⟩ := this; exact ⟨vb, e, trivial⟩
            have hd2 : Aside ((feedO most o1.rest o1.dead seg).dead = some h1) := ⟨by rw [hd1]; rfl⟩
            have hd1 := Aside.mk hd1
            go_wp2_with (first | (at_builtin; refine wpList_appendO rfl (.tmp 53) (.tmp 59) rfl (.slice (some ⟨wc.heap.size, 0, none⟩) 0 0) (.slice q 0 0) [] seg (owns_any (owns_empty wc 5)) (RG.it _ ((Keeps.refl _ _).alloc _)) hsl.it rfl (by first | rfl | simp [Act.eval]) ?_; intro q3 l3 c3 w3 o3 k3 b3; have CE := Aside.mk (copy_end (own := own2) (i := 1) o3.it k3.it b3.it)) | (go_at_call 13; refine (feed_gv G1.it CE.it.1 _ seg CE.it.2 hsb.it hsn.it).mono ?_; rintro e w4 ⟨gq, gl, gc, ev4, own4, rfl, M4⟩; obtain ⟨vb4, rfl, _⟩ : ∃ vb, ev4 = vio vb ∧ True := (by have := M4.it.E2; rw [hd2.it] at this; obtain ⟨vb, e, _⟩ := this; exact ⟨vb, e, trivial⟩); obtain ⟨xs, y1, y2, y3, y4⟩ := M4.it.F1; obtain ⟨ys, z1, z2, z3, z4⟩ := M4.it.F2; have Y := Aside.mk (And.intro y1 (And.intro y2 (And.intro y3 y4))); have Z := Aside.mk (And.intro z1 (And.intro z2 (And.intro z3 z4))); clear y1 y2 y3 y4 z1 z2 z3 z4; have HB := Aside.mk (cnt xs ys Y.it.1 Z.it.1)) | (at_builtin; refine wpList_appendR rfl (.tmp 64) (.tmp 65) 22 rfl 31 _ 6 40 Tryd.underlying22 frameInfo rfl (by decide) w4 (Keeps.refl _ _) 0 _ _ _ Y.it.2.1 _ _ (fcells ys) (owns_readsK Z.it.2.1) (fcells_one' ys (fun x hx => (Z.it.2.2.2 x hx).one)) HB.it.1 HB.it.2 (Nat.zero_le _) rfl rfl ?_; intro v6 w6 o6 k6 b6; obtain ⟨q6, c6, rfl⟩ := owns_val o6.it))
            go_round
            case rel => exact ⟨c + 0, k + 1, _, by go_num, by go_num, ⟨_, _, _, rfl⟩, by omega, ⟨hm, fun h => hkm.it (by omega), by rw [take_more, prs_step, ho1.it, ← hseg.it]; exact gv_next M4.it Y.it.1 Y.it.2.1 Y.it.2.2.1 Y.it.2.2.2 Z.it.1 Z.it.2.2.2 o6.it k6.it b6.it _ (by have := M4.it.E1; rw [hd1.it] at this; rw [hd2.it]; exact this)⟩⟩
            case measure => simp [intOf]; omega
        · have RG : Aside (∀ W, Keeps Nowhere wc W → Rd W (.slice (q.map (·.add a)) m (c - a)) seg) := ⟨fun W hk => by have := RG0 W hk; rwa [if_neg hca] at this⟩
          clear RG0
          cases hd1 : o1.dead with
          | none =>
            have hu : u12 = .nilIface := by have := G1.it.V.E; rw [hd1] at this; exact this
            subst hu
            cases hd2 : (feedO most o1.rest o1.dead seg).dead with
            | none =>
              have hd2 := Aside.mk hd2
              have hd1 := Aside.mk hd1
              go_wp2_with (first | (at_builtin; refine wpList_appendO rfl (.tmp 53) (.tmp 59) rfl (.slice (some ⟨wc.heap.size, 0, none⟩) 0 0) (.slice (q.map (·.add a)) m (c - a)) [] seg (owns_any (owns_empty wc 5)) (RG.it _ ((Keeps.refl _ _).alloc _)) hsl.it rfl (by first | rfl | simp [Act.eval]) ?_; intro q3 l3 c3 w3 o3 k3 b3; have CE := Aside.mk (copy_end (own := own2) (i := 1) o3.it k3.it b3.it)) | (go_at_call 13; refine (feed_gv G1.it CE.it.1 _ seg CE.it.2 hsb.it hsn.it).mono ?_; rintro e w4 ⟨gq, gl, gc, ev4, own4, rfl, M4⟩; have hev : ev4 = .nilIface := (by have := M4.it.E2; rw [hd2.it] at this; exact this); subst hev; obtain ⟨xs, y1, y2, y3, y4⟩ := M4.it.F1; obtain ⟨ys, z1, z2, z3, z4⟩ := M4.it.F2; have Y := Aside.mk (And.intro y1 (And.intro y2 (And.intro y3 y4))); have Z := Aside.mk (And.intro z1 (And.intro z2 (And.intro z3 z4))); clear y1 y2 y3 y4 z1 z2 z3 z4; have HB := Aside.mk (cnt xs ys Y.it.1 Z.it.1)) | (at_builtin; refine wpList_appendR rfl (.tmp 64) (.tmp 65) 22 rfl 31 _ 6 40 Tryd.underlying22 frameInfo rfl (by decide) w4 (Keeps.refl _ _) 0 _ _ _ Y.it.2.1 _ _ (fcells ys) (owns_readsK Z.it.2.1) (fcells_one' ys (fun x hx => (Z.it.2.2.2 x hx).one)) HB.it.1 HB.it.2 (Nat.zero_le _) rfl rfl ?_; intro v6 w6 o6 k6 b6; obtain ⟨q6, c6, rfl⟩ := owns_val o6.it))
              go_round
              case rel => exact ⟨a + m, k + 1, _, by go_num, by go_num, ⟨_, _, _, rfl⟩, by omega, ⟨hm, fun h => hkm.it (by omega), by rw [take_more, prs_step, ho1.it, ← hseg.it]; exact gv_next M4.it Y.it.1 Y.it.2.1 Y.it.2.2.1 Y.it.2.2.2 Z.it.1 Z.it.2.2.2 o6.it k6.it b6.it _ (by rw [hd2.it]; exact rfl)⟩⟩
              case measure => simp [intOf]; omega
            | some h2 =>
              have hd2 := Aside.mk hd2
              have hd1 := Aside.mk hd1
              go_wp2_with (first | (at_builtin; refine wpList_appendO rfl (.tmp 53) (.tmp 59) rfl (.slice (some ⟨wc.heap.size, 0, none⟩) 0 0) (.slice (q.map (·.add a)) m (c - a)) [] seg (owns_any (owns_empty wc 5)) (RG.it _ ((Keeps.refl _ _).alloc _)) hsl.it rfl (by first | rfl | simp [Act.eval]) ?_; intro q3 l3 c3 w3 o3 k3 b3; have CE := Aside.mk (copy_end (own := own2) (i := 1) o3.it k3.it b3.it)) | (go_at_call 13; refine (feed_gv G1.it CE.it.1 _ seg CE.it.2 hsb.it hsn.it).mono ?_; rintro e w4 ⟨gq, gl, gc, ev4, own4, rfl, M4⟩; obtain ⟨vb4, rfl, _⟩ : ∃ vb, ev4 = vio vb ∧ True := (by have := M4.it.E2; rw [hd2.it] at this; obtain ⟨vb, e, _⟩ := this; exact ⟨vb, e, trivial⟩); obtain ⟨xs, y1, y2, y3, y4⟩ := M4.it.F1; obtain ⟨ys, z1, z2, z3, z4⟩ := M4.it.F2; have Y := Aside.mk (And.intro y1 (And.intro y2 (And.intro y3 y4))); have Z := Aside.mk (And.intro z1 (And.intro z2 (And.intro z3 z4))); clear y1 y2 y3 y4 z1 z2 z3 z4; have HB := Aside.mk (cnt xs ys Y.it.1 Z.it.1)) | (at_builtin; refine wpList_appendR rfl (.tmp 64) (.tmp 65) 22 rfl 31 _ 6 40 Tryd.underlying22 frameInfo rfl (by decide) w4 (Keeps.refl _ _) 0 _ _ _ Y.it.2.1 _ _ (fcells ys) (owns_readsK Z.it.2.1) (fcells_one' ys (fun x hx => (Z.it.2.2.2 x hx).one)) HB.it.1 HB.it.2 (Nat.zero_le _) rfl rfl ?_; intro v6 w6 o6 k6 b6; obtain ⟨q6, c6, rfl⟩ := owns_val o6.it))
              go_round
              case rel => exact ⟨a + m, k + 1, _, by go_num, by go_num, ⟨_, _, _, rfl⟩, by omega, ⟨hm, fun h => hkm.it (by omega), by rw [take_more, prs_step, ho1.it, ← hseg.it]; exact gv_next M4.it Y.it.1 Y.it.2.1 Y.it.2.2.1 Y.it.2.2.2 Z.it.1 Z.it.2.2.2 o6.it k6.it b6.it _ M4.it.E2⟩⟩
              case measure => simp [intOf]; omega
          | some h1 =>
            obtain ⟨vb1, rfl, _⟩ : ∃ vb, u12 = vio vb ∧ True := by have := G1.it.V.E; rw [hd1] at this; obtain ⟨vb, e, _⟩ := this; exact ⟨vb, e, trivial⟩
            have hd2 : Aside ((feedO most o1.rest o1.dead seg).dead = some h1) := ⟨by rw [hd1]; rfl⟩
            have hd1 := Aside.mk hd1
            go_wp2_with (first | (at_builtin; refine wpList_appendO rfl (.tmp 53) (.tmp 59) rfl (.slice (some ⟨wc.heap.size, 0, none⟩) 0 0) (.slice (q.map (·.add a)) m (c - a)) [] seg (owns_any (owns_empty wc 5)) (RG.it _ ((Keeps.refl _ _).alloc _)) hsl.it rfl (by first | rfl | simp [Act.eval]) ?_; intro q3 l3 c3 w3 o3 k3 b3; have CE := Aside.mk (copy_end (own := own2) (i := 1) o3.it k3.it b3.it)) | (go_at_call 13; refine (feed_gv G1.it CE.it.1 _ seg CE.it.2 hsb.it hsn.it).mono ?_; rintro e w4 ⟨gq, gl, gc, ev4, own4, rfl, M4⟩; obtain ⟨vb4, rfl, _⟩ : ∃ vb, ev4 = vio vb ∧ True := (by have := M4.it.E2; rw [hd2.it] at this; obtain ⟨vb, e, _⟩ := this; exact ⟨vb, e, trivial⟩); obtain ⟨xs, y1, y2, y3, y4⟩ := M4.it.F1; obtain ⟨ys, z1, z2, z3, z4⟩ := M4.it.F2; have Y := Aside.mk (And.intro y1 (And.intro y2 (And.intro y3 y4))); have Z := Aside.mk (And.intro z1 (And.intro z2 (And.intro z3 z4))); clear y1 y2 y3 y4 z1 z2 z3 z4; have HB := Aside.mk (cnt xs ys Y.it.1 Z.it.1)) | (at_builtin; refine wpList_appendR rfl (.tmp 64) (.tmp 65) 22 rfl 31 _ 6 40 Tryd.underlying22 frameInfo rfl (by decide) w4 (Keeps.refl _ _) 0 _ _ _ Y.it.2.1 _ _ (fcells ys) (owns_readsK Z.it.2.1) (fcells_one' ys (fun x hx => (Z.it.2.2.2 x hx).one)) HB.it.1 HB.it.2 (Nat.zero_le _) rfl rfl ?_; intro v6 w6 o6 k6 b6; obtain ⟨q6, c6, rfl⟩ := owns_val o6.it))
            go_round
            case rel => exact ⟨a + m, k + 1, _, by go_num, by go_num, ⟨_, _, _, rfl⟩, by omega, ⟨hm, fun h => hkm.it (by omega), by rw [take_more, prs_step, ho1.it, ← hseg.it]; exact gv_next M4.it Y.it.1 Y.it.2.1 Y.it.2.2.1 Y.it.2.2.2 Z.it.1 Z.it.2.2.2 o6.it k6.it b6.it _ (by have := M4.it.E1; rw [hd1.it] at this; rw [hd2.it]; exact this)⟩⟩
            case measure => simp [intOf]; omega
end
end Go.Proofs.YtfdfibajlggeeaaDoor

/-
  culvertlaw27.gives
-/
import Derived.Test.YtllioaclnkkhhaaDoorMhB
import Derived.Test.YtllioaclnkkhhaaDoorRdI
import Derived.Deep.DeepCutAuto
namespace Go.Proofs.YtllioaclnkkhhaaDoor
open Go.RowKit

section
variable {A : Nat → Addr} {w w' W w0 : World} {own own' : Nat → Nat} {p most : Nat} {bs seg l zs : List Int} {dead : Bool} {v fv ev gv : Value} {ms rs : List (List Int)} {O : MOut} {d d2 e : Nat}
def natG (v : Value) : Nat := match v with | .int _ x => x.toNat | _ => 0
theorem parse_cnt (most : Nat) (F : List Int) : (parseM most F).ms.length ≤ F.length := by
  induction hn : F.length using Nat.strongRecOn generalizing F with
  | _ n ih =>
    cases hd : hdM most F with
    | none => rw [parseM_none hd]; simp
    | some x =>
      cases x with
      | none => rw [parseM_bad hd]; simp
      | some x =>
        obtain ⟨m, k⟩ := x
        have hp := hdM_pos hd
        by_cases hl : F.length < k + m
        · rw [parseM_part hd hl]; simp
        · rw [parseM_more hd (by omega)]
          have := ih (F.drop (k + m)).length (by simp; omega) (F.drop (k + m)) rfl
          simp at this ⊢
          omega
theorem take_cut (bs : List Int) (a m : Nat) : bs.take (a + m) = bs.take a ++ (bs.drop a).take m := by rw [List.take_add]
theorem Holds.at64 {w : World} {a : Option Addr} {len cap : Nat} {ns : List Int} (h : Holds .i64 w (.slice a len cap) ns) (hpos : 0 < len) :
    ∃ b o, a = some ⟨b, o, none⟩ ∧ ∀ i, i < len → w.cell? ⟨b, o + i, none⟩ = some (.int .i64 (ns.getD i 0)) := by
  obtain ⟨a', len', cap', e, hl, hc⟩ := h
  cases e
  obtain ⟨x, rfl, h0⟩ := hc 0 hpos
  have hall : ∀ i, i < ns.length → w.cell? (x.add i) = some (.int .i64 (ns.getD i 0)) := fun i hi => by
    obtain ⟨y, hy, hcell⟩ := hc i (by omega)
    cases hy
    exact hcell
  obtain ⟨b, o, rfl, hc'⟩ := ints_at hall (by omega)
  exact ⟨b, o, rfl, fun i hi => by simpa using hc' i (by omega)⟩
/-- what gives answers -/
def GivR (A : Nat → Addr) (w : World) (most : Nat) (bs : List Int) (e : Ending) (w' : World) : Prop := ∃ fq fl fc ev p own', e = .returned (.tuple #[.slice fq fl fc, ev, ptr p]) ∧ Hid (Coded A ev (codeM (parseM most bs))) ∧ Aside (Below w.heap.size w w' ∧ Gi A w own' w' p most (parseM most bs) (.slice fq fl fc))
set_option maxHeartbeats 8000000 in
set_option maxRecDepth 20000 in
theorem gives27 (hs : Sents 86 codeVars A w) (hm : most ≤ 1048576) (q : Option Addr) (L c : Nat) (R : Rd w (.slice q L c) bs) (hb : AreBytes bs) (hL : bs.length ≤ 16777216) (cq : Option Addr) (K cc : Nat) (C : Holds .i64 w (.slice cq K cc) zs) (hKb : K ≤ 1048576) :
    Calls Tryd.prog 22 #[.int .i64 most, .slice q L c, .slice cq K cc] w (GivR A w most bs) := by
  have N := Aside.mk (newM_ok (w := w) hm (fun _ => 0) 1)
  have hLe : Aside (bs.length = L ∧ L ≤ c) := by
    obtain ⟨x, y, e⟩ := R.shape
    injection e with _ e _
    have := R.1.len
    rw [bv_length] at this
    exact ⟨e.symm, by omega⟩
  have HS := Aside.mk hs
  have HR := Aside.mk R
  have HC := Aside.mk C
  have HB := Aside.mk hb
  have HMo := Aside.mk hm
  have hL2 := Aside.mk hL
  have hK : Aside (K ≤ 1048576) := ⟨hKb⟩
  clear hs R C hb hm hL
  go_enter Tryd.func22, Tryd.ntmps22
  go_upto_region 7 with (first | (go_at_call 9; refine N.it.mono ?_; clear N; rintro e w1 ⟨p, rfl, R1, K1⟩) | fail)
  have G1 : Aside (Gi A w (give (fun _ => 0) w.heap.size 1) w1 p most (parseM most (bs.take 0)) (.slice none 0 0)) := ⟨⟨(OnG.start HS.it).sn (I := fun _ => False) (Sn.quiet K1.it 1) (fun x => x), by
    have e : parseM most (bs.take 0) = ⟨[], [], false⟩ := parseM_none rfl
    rw [e]; exact R1.it⟩, by
    have e : parseM most (bs.take 0) = ⟨[], [], false⟩ := parseM_none rfl
    rw [e]; exact RowL.nil _ _ _ _⟩
  have E0 : Hid (Coded A .nilIface (codeM (parseM most (bs.take 0)))) := by
    have e : parseM most (bs.take 0) = ⟨[], [], false⟩ := parseM_none rfl
    rw [e]; exact Coded.none
  have E0 := Aside.mk E0
  clear R1 K1
  go_upto_region 8 with fail
  go_loopw [11, 12, 13, 14] (fun fr er a k wr => ∃ (an kn : Nat) (own' : Nat → Nat) (fq : Option Addr) (fl fc : Nat), a = .int .i64 an ∧ k = .int .i64 kn ∧ fr = .slice fq fl fc ∧ kn ≤ K + 1 ∧ Aside (an ≤ L ∧ (kn = K + 1 → an = L) ∧ Gi A w own' wr p most (parseM most (bs.take an)) (.slice fq fl fc)) ∧ Aside (Hid (Coded A er (codeM (parseM most (bs.take an)))))) (fun _ _ _ k _ => K + 1 - natG k)
  case atStart => exact ⟨0, 0, _, none, 0, 0, rfl, rfl, rfl, by omega, ⟨by omega, by omega, G1.it⟩, E0⟩
  case round =>
    clear G1 E0
    obtain ⟨a, k, own2, fq, fl, fc, rfl, rfl, rfl, hk1, X2, E2⟩ := hrel
    have hKL := hK.it
    by_cases hkK : k = K + 1
    · subst hkK
      have ht : Aside (parseM most (bs.take a) = parseM most bs) := ⟨by rw [X2.it.2.1 rfl, ← hLe.it.1, List.take_length]⟩
      have hlt : ¬ ((K : Int) + 1 ≤ K) := by omega
      rw [ht.it] at X2 E2
      go_wp2_with fail
      go_returns
      exact ⟨_, _, _, _, p, own2, rfl, E2.it, ⟨X2.it.2.2.L.g.g.bel, X2.it.2.2⟩⟩
    · obtain ⟨o1, ho1⟩ : ∃ o1, Aside (parseM most (bs.take a) = o1) := ⟨_, ⟨rfl⟩⟩
      have G1 : Aside (Gi A w own2 wr p most o1 (.slice fq fl fc)) := ⟨ho1.it ▸ X2.it.2.2⟩
      rw [ho1.it] at E2
      have hkK' : (k : Int) ≤ (K : Int) := by omega
      have haL : a ≤ L := X2.it.1
      have hLb : L ≤ 16777216 := by have := hLe.it.1; have := hL2.it; omega
      go_upto_if 43 with fail
      go_cut [15] (fun n wx => ∃ m : Nat, n = .int .i64 m ∧ wx = wr ∧ a + m ≤ L ∧ Aside (k = K → a + m = L))
      case first =>
        by_cases hlt : k < K
        · obtain ⟨cb, co, rfl, hcells⟩ := HC.it.at64 (by omega)
          have hz : wr.cell? ⟨cb, co + k, none⟩ = some (.int .i64 (zs.getD k 0)) := by
            have := hcells k hlt
            rw [G1.it.L.g.g.bel.cell (World.block_lt_of_cell? w _ this)]
            exact this
          generalize zs.getD k 0 = z at hz
          have hlt' : (k : Int) < (K : Int) := by omega
          have hk0 : (0 : Int) ≤ (k : Int) := by omega
          clear hcells
          go_wp2_with fail
          all_goals go_meet
          all_goals (case rel => first
            | exact ⟨0, rfl, rfl, by omega, ⟨by omega⟩⟩
            | exact ⟨z.toNat, by rw [Int.toNat_of_nonneg (by omega)], rfl, by omega, ⟨by omega⟩⟩
            | exact ⟨L - a, by rw [Int.ofNat_sub haL], rfl, by omega, ⟨by omega⟩⟩)
        · have hlt' : ¬ (k : Int) < (K : Int) := by omega
          go_wp2_with fail
          go_meet
          case rel => exact ⟨L - a, by rw [Int.ofNat_sub haL], rfl, by omega, ⟨by omega⟩⟩
      case rest =>
        obtain ⟨m, rfl, rfl, hm, hkm⟩ := hcut
        obtain ⟨seg, hseg⟩ : ∃ seg, Aside ((bs.drop a).take m = seg) := ⟨_, ⟨rfl⟩⟩
        have hsl0 : Aside (seg.length = m) := ⟨by rw [← hseg.it, List.length_take, List.length_drop, hLe.it.1]; omega⟩
        have hsb : Aside (AreBytes seg) := ⟨fun x hx => HB.it x (by rw [← hseg.it] at hx; exact List.mem_of_mem_drop (List.mem_of_mem_take hx))⟩
        have hsl : Aside (([] : List Int).length + seg.length ≤ 140737488355328) := ⟨by rw [hsl0.it]; simp; omega⟩
        have hsn : Aside (seg.length ≤ 2199023255552) := ⟨by rw [hsl0.it]; omega⟩
        obtain ⟨o2, ho2⟩ : ∃ o2, Aside (outM most o1.rest o1.dead seg = o2) := ⟨_, ⟨rfl⟩⟩
        have hnext : Aside (parseM most (bs.take (a + m)) = ⟨o1.ms ++ o2.ms, o2.rest, o2.dead⟩) := ⟨by rw [take_cut, hseg.it, ← ho2.it]; exact parse_more seg ho1.it⟩
        have hcnt : Aside (o1.ms.length + o2.ms.length ≤ 4398046511103) := ⟨by
          have := parse_cnt most (bs.take (a + m))
          rw [hnext.it, List.length_take] at this
          simp at this
          omega⟩
        have RG0 : ∀ W, Keeps Nowhere wc W → Rd W (.slice (if c = a then q else q.map (fun x => x.add a)) m (c - a)) seg := fun W hk => by
          have r0 : RdS Nowhere W (.slice q L c) bs := HR.it.later ((G1.it.quiet hk).L.g.g.bel)
          have := (r0.seg (a := a) (n := m) (by rw [hLe.it.1]; omega)).rd
          rw [hseg.it] at this
          exact this
        have hmc : (a : Int) + (m : Int) ≤ (c : Int) := by have := hLe.it.2; omega
        have hma : (a : Int) ≤ (a : Int) + (m : Int) := by omega
        have hmm : a + m - a = m := by omega
        clear X2
        by_cases hca : c = a
        · obtain rfl : m = 0 := by have := hLe.it.2; omega
          have RG : Aside (∀ W, Keeps Nowhere wc W → Rd W (.slice q 0 0) seg) := ⟨fun W hk => by have := RG0 W hk; rwa [if_pos hca, hca, Nat.sub_self] at this⟩
          clear RG0
          subst hca
          go_upto_region 14 with (first
            | (at_builtin; refine wpList_appendO rfl (.tmp 53) (.tmp 59) rfl (.slice (some ⟨wc.heap.size, 0, none⟩) 0 0) (.slice q 0 0) [] seg (owns_any (owns_empty wc 5)) (RG.it _ ((Keeps.refl _ _).alloc _)) hsl.it rfl (by first | rfl | simp [Act.eval]) ?_; intro q8 l8 c8 w8 O8 K8 B8; have FD := Aside.mk (gi_seg G1.it ((Keeps.refl _ _).alloc _) O8.it K8.it B8.it hsb.it hsn.it))
            | (go_at_call 12; refine FD.it.mono ?_; clear FD; rintro e w9 ⟨gq, gl, gc, ev2, own9, rfl, C9, X9⟩)
            | fail)
          go_upto_region 15 with (first
            | (at_builtin; refine wpList_appendLL rfl (.tmp 64) (.tmp 65) rfl X9.it.row X9.it.got (by decide) (by rw [ho2.it]; exact hcnt.it) rfl rfl ?_; intro qA lA cA wA RA SA)
            | fail)
          have GA : Aside (Gi A w (give own9 w9.heap.size 5) wA p most ⟨o1.ms ++ o2.ms, o2.rest, o2.dead⟩ (.slice qA lA cA)) := ⟨⟨(ho2.it ▸ X9.it.L).sn SA.it (by decide) (by decide) (by decide), ho2.it ▸ RA.it⟩⟩
          have C9 := Aside.mk C9
          rw [ho2.it] at C9
          cases hd1 : o1.dead with
          | true =>
            have hd2 : o2.dead = true := by rw [← ho2.it, hd1]; rfl
            have e1 : codeM o1 = 15 := by unfold codeM; rw [if_pos hd1]
            have e2 : codeM (⟨o1.ms ++ o2.ms, o2.rest, o2.dead⟩ : MOut) = 15 := by unfold codeM; rw [if_pos hd2]
            rw [e1] at E2
            obtain ⟨a12, rfl⟩ := Coded.pos E2.it.out (by decide)
            have e3 : codeF o1.dead o2 = 34 := by unfold codeF; rw [if_pos hd1]
            rw [e3] at C9
            obtain ⟨a9, rfl⟩ := Coded.pos C9.it.out (by decide)
            have E3 : Aside (Hid (Coded A (.iface 86 (.pointer (some a12))) (codeM (⟨o1.ms ++ o2.ms, o2.rest, o2.dead⟩ : MOut)))) := ⟨by rw [e2]; exact E2.it⟩
            clear e1 e2 e3 hd2 hd1 RA SA
            go_wp2_with fail
            go_roundw
            case rel => exact ⟨c + 0, k + 1, _, qA, lA, cA, by go_num, by go_num, rfl, by omega, ⟨hm, fun h => hkm.it (by omega), by rw [hnext.it]; exact GA.it⟩, ⟨by rw [hnext.it]; exact E3.it⟩⟩
            case measure => simp [natG]; omega
          | false =>
            have e1 : codeM o1 = 0 := by unfold codeM; rw [if_neg (by rw [hd1]; decide)]
            rw [e1] at E2
            obtain rfl := Coded.zero E2.it.out
            have e3 : codeF o1.dead o2 = codeM o2 := by unfold codeF; rw [if_neg (by rw [hd1]; decide)]
            rw [e3] at C9
            have e4 : codeM (⟨o1.ms ++ o2.ms, o2.rest, o2.dead⟩ : MOut) = codeM o2 := rfl
            rcases codeM_more o2 with e5 | e5
            · rw [e5] at C9 e4
              obtain rfl := Coded.zero C9.it.out
              have E3 : Aside (Hid (Coded A .nilIface (codeM (⟨o1.ms ++ o2.ms, o2.rest, o2.dead⟩ : MOut)))) := ⟨by rw [e4]; exact C9.it⟩
              clear e1 e3 e4 e5 hd1 RA SA
              go_wp2_with fail
              go_roundw
              case rel => exact ⟨c + 0, k + 1, _, qA, lA, cA, by go_num, by go_num, rfl, by omega, ⟨hm, fun h => hkm.it (by omega), by rw [hnext.it]; exact GA.it⟩, ⟨by rw [hnext.it]; exact E3.it⟩⟩
              case measure => simp [natG]; omega
            · rw [e5] at C9 e4
              obtain ⟨a9, rfl⟩ := Coded.pos C9.it.out (by decide)
              have E3 : Aside (Hid (Coded A (.iface 86 (.pointer (some a9))) (codeM (⟨o1.ms ++ o2.ms, o2.rest, o2.dead⟩ : MOut)))) := ⟨by rw [e4]; exact C9.it⟩
              clear e1 e3 e4 e5 hd1 RA SA
              go_wp2_with fail
              go_roundw
              case rel => exact ⟨c + 0, k + 1, _, qA, lA, cA, by go_num, by go_num, rfl, by omega, ⟨hm, fun h => hkm.it (by omega), by rw [hnext.it]; exact GA.it⟩, ⟨by rw [hnext.it]; exact E3.it⟩⟩
              case measure => simp [natG]; omega
        · have RG : Aside (∀ W, Keeps Nowhere wc W → Rd W (.slice (q.map (fun x => x.add a)) m (c - a)) seg) := ⟨fun W hk => by have := RG0 W hk; rwa [if_neg hca] at this⟩
          clear RG0
          go_upto_region 14 with (first
            | (at_builtin; refine wpList_appendO rfl (.tmp 53) (.tmp 59) rfl (.slice (some ⟨wc.heap.size, 0, none⟩) 0 0) (.slice (q.map (fun x => x.add a)) m (c - a)) [] seg (owns_any (owns_empty wc 5)) (RG.it _ ((Keeps.refl _ _).alloc _)) hsl.it rfl (by first | rfl | simp [Act.eval]) ?_; intro q8 l8 c8 w8 O8 K8 B8; have FD := Aside.mk (gi_seg G1.it ((Keeps.refl _ _).alloc _) O8.it K8.it B8.it hsb.it hsn.it))
            | (go_at_call 12; refine FD.it.mono ?_; clear FD; rintro e w9 ⟨gq, gl, gc, ev2, own9, rfl, C9, X9⟩)
            | fail)
          go_upto_region 15 with (first
            | (at_builtin; refine wpList_appendLL rfl (.tmp 64) (.tmp 65) rfl X9.it.row X9.it.got (by decide) (by rw [ho2.it]; exact hcnt.it) rfl rfl ?_; intro qA lA cA wA RA SA)
            | fail)
          have GA : Aside (Gi A w (give own9 w9.heap.size 5) wA p most ⟨o1.ms ++ o2.ms, o2.rest, o2.dead⟩ (.slice qA lA cA)) := ⟨⟨(ho2.it ▸ X9.it.L).sn SA.it (by decide) (by decide) (by decide), ho2.it ▸ RA.it⟩⟩
          have C9 := Aside.mk C9
          rw [ho2.it] at C9
          cases hd1 : o1.dead with
          | true =>
            have hd2 : o2.dead = true := by rw [← ho2.it, hd1]; rfl
            have e1 : codeM o1 = 15 := by unfold codeM; rw [if_pos hd1]
            have e2 : codeM (⟨o1.ms ++ o2.ms, o2.rest, o2.dead⟩ : MOut) = 15 := by unfold codeM; rw [if_pos hd2]
            rw [e1] at E2
            obtain ⟨a12, rfl⟩ := Coded.pos E2.it.out (by decide)
            have e3 : codeF o1.dead o2 = 34 := by unfold codeF; rw [if_pos hd1]
            rw [e3] at C9
            obtain ⟨a9, rfl⟩ := Coded.pos C9.it.out (by decide)
            have E3 : Aside (Hid (Coded A (.iface 86 (.pointer (some a12))) (codeM (⟨o1.ms ++ o2.ms, o2.rest, o2.dead⟩ : MOut)))) := ⟨by rw [e2]; exact E2.it⟩
            clear e1 e2 e3 hd2 hd1 RA SA
            go_wp2_with fail
            go_roundw
            case rel => exact ⟨a + m, k + 1, _, qA, lA, cA, by go_num, by go_num, rfl, by omega, ⟨hm, fun h => hkm.it (by omega), by rw [hnext.it]; exact GA.it⟩, ⟨by rw [hnext.it]; exact E3.it⟩⟩
            case measure => simp [natG]; omega
          | false =>
            have e1 : codeM o1 = 0 := by unfold codeM; rw [if_neg (by rw [hd1]; decide)]
            rw [e1] at E2
            obtain rfl := Coded.zero E2.it.out
            have e3 : codeF o1.dead o2 = codeM o2 := by unfold codeF; rw [if_neg (by rw [hd1]; decide)]
            rw [e3] at C9
            have e4 : codeM (⟨o1.ms ++ o2.ms, o2.rest, o2.dead⟩ : MOut) = codeM o2 := rfl
            rcases codeM_more o2 with e5 | e5
            · rw [e5] at C9 e4
              obtain rfl := Coded.zero C9.it.out
              have E3 : Aside (Hid (Coded A .nilIface (codeM (⟨o1.ms ++ o2.ms, o2.rest, o2.dead⟩ : MOut)))) := ⟨by rw [e4]; exact C9.it⟩
              clear e1 e3 e4 e5 hd1 RA SA
              go_wp2_with fail
              go_roundw
              case rel => exact ⟨a + m, k + 1, _, qA, lA, cA, by go_num, by go_num, rfl, by omega, ⟨hm, fun h => hkm.it (by omega), by rw [hnext.it]; exact GA.it⟩, ⟨by rw [hnext.it]; exact E3.it⟩⟩
              case measure => simp [natG]; omega
            · rw [e5] at C9 e4
              obtain ⟨a9, rfl⟩ := Coded.pos C9.it.out (by decide)
              have E3 : Aside (Hid (Coded A (.iface 86 (.pointer (some a9))) (codeM (⟨o1.ms ++ o2.ms, o2.rest, o2.dead⟩ : MOut)))) := ⟨by rw [e4]; exact C9.it⟩
              clear e1 e3 e4 e5 hd1 RA SA
              go_wp2_with fail
              go_roundw
              case rel => exact ⟨a + m, k + 1, _, qA, lA, cA, by go_num, by go_num, rfl, by omega, ⟨hm, fun h => hkm.it (by omega), by rw [hnext.it]; exact GA.it⟩, ⟨by rw [hnext.it]; exact E3.it⟩⟩
              case measure => simp [natG]; omega
end
end Go.Proofs.YtllioaclnkkhhaaDoor

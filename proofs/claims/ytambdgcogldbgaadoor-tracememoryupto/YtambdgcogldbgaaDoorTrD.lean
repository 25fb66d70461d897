/-
  package trace: letGo, Gave, Rest
-/
import Derived.Test.YtambdgcogldbgaaDoorTrC
import Derived.Test.YtambdgcogldbgaaDoorShelf
namespace Go.Proofs.YtambdgcogldbgaaDoor
open Go.RowKit Go.Maps

variable {own own' : Nat → Nat} {i p T mb : Nat} {w w' w1 : World} {L : Hs} {I : Nat → Prop} {k : Int} {b : Nat} {v : Value} {r : Rc} {F : Int → Option (Nat × Value)} {A : Nat → Addr}

theorem Rd.in {q : Option Addr} {n c : Nat} {xs : List Int} (h : Rd w (.slice q n c) xs) : Lib.BytesIn w q n xs := by
  intro hn
  have hl : xs.length = n := by
    obtain ⟨p, c', e⟩ := h.shape
    injection e with _ e _
    exact e.symm
  obtain ⟨g, o, c', e, _, hc⟩ := h.at (by rintro rfl; simp at hl; omega)
  injection e with e1 _ _
  refine ⟨g, o, e1, fun i hi => hc i _ ?_⟩
  simp [bv, List.getD, List.getElem?_eq_getElem (show i < xs.length by omega)]
theorem Rd.len {q : Option Addr} {n c : Nat} {xs : List Int} (h : Rd w (.slice q n c) xs) : xs.length = n ∧ n ≤ c := by
  obtain ⟨⟨a, c', e, hl, _⟩, _⟩ := h
  injection e with _ e2 e3
  rw [bv_length] at e2 hl
  omega
theorem bytesOf_take {xs ys : List Int} (hx : ∀ n ∈ xs, 0 ≤ n ∧ n ≤ 255) (hy : ∀ n ∈ ys, 0 ≤ n ∧ n ≤ 255) : Lib.hasPrefix (Lib.bytesOf xs) (Lib.bytesOf ys) = (decide (ys.length ≤ xs.length) && decide (xs.take ys.length = ys)) := by
  unfold Lib.hasPrefix Lib.bytesOf
  induction ys generalizing xs with
  | nil => simp
  | cons y ys ih =>
    cases xs with
    | nil => simp
    | cons x xs =>
      simp only [List.map_cons, List.isPrefixOf_cons_cons, List.length_cons, List.take_succ_cons, List.cons.injEq, Nat.add_le_add_iff_right]
      rw [ih (fun n hn => hx n (.tail _ hn)) (fun n hn => hy n (.tail _ hn))]
      have h1 := hx x (.head _)
      have h2 := hy y (.head _)
      by_cases e : x = y
      · subst e; simp
      · have hne : ¬ UInt8.ofNat y.toNat = UInt8.ofNat x.toNat := fun h => by
          have := congrArg UInt8.toNat h
          simp only [UInt8.toNat_ofNat'] at this
          omega
        simp [hne, e]
theorem hp_any {q q2 : Option Addr} {n c m d : Nat} {xs ys : List Int} (h1 : Rd w (.slice q n c) xs) (h2 : Rd w (.slice q2 m d) ys) (hx : ∀ n ∈ xs, 0 ≤ n ∧ n ≤ 255) (hy : ∀ n ∈ ys, 0 ≤ n ∧ n ≤ 255) :
    Calls Tryd.prog 28 #[.slice q n c, .slice q2 m d] w fun e w' => e = .returned (.bool (decide (ys.length ≤ xs.length) && decide (xs.take ys.length = ys))) ∧ w' = w := by
  rw [← bytesOf_take hx hy]
  exact Tryd.bytes_HasPrefix_all q q2 n c m d xs ys w h1.len.1 h2.len.1 h1.len.2 h1.in h2.in
theorem clone_any {q : Option Addr} {n c : Nat} {xs : List Int} (h : Rd w (.slice q n c) xs) (hb : n ≤ 140737488355328) : Calls Tryd.prog 31 #[.slice q n c] w fun e w' => ∃ q' c', e = .returned (.slice q' n c') ∧ Aside (w'.ownsRow w.heap.size 5 1 (.slice q' n c') n (bv xs)) ∧ Aside (Keeps Nowhere w w') := by
  have hl := h.len
  cases q with
  | none =>
    have h0 : c = 0 := h.2 _ _ rfl
    obtain rfl : n = 0 := by omega
    obtain rfl : xs = [] := List.eq_nil_of_length_eq_zero hl.1
    refine (Tryd.bytes_Clone_nil 0 c w).mono ?_
    rintro e w' ⟨rfl, rfl⟩
    exact ⟨none, 0, rfl, ⟨World.ownsRow_nil _ _ _ _⟩, ⟨Keeps.refl _ _⟩⟩
  | some a =>
    have hc : ∀ i, i < n → w.cell? (a.add i) = some (.int .u8 (xs.getD i 0)) := by
      intro i hi
      obtain ⟨⟨a', c', e, _, hc⟩, _⟩ := h
      injection e with e1 _ _
      obtain ⟨x, hx, _, hce⟩ := hc i (.int .u8 (xs.getD i 0)) (by simp [bv, List.getD, List.getElem?_eq_getElem (show i < xs.length by omega)])
      rw [← e1] at hx
      injection hx with hx
      rw [hx]
      exact hce
    refine (Tryd.bytes_Clone_at a n c xs w hl.1 hb hc).mono ?_
    rintro e w' ⟨v', rfl, ho, _, hbl⟩
    obtain ⟨q', c', rfl⟩ := owns_val ho
    exact ⟨q', c', rfl, ⟨ho⟩, ⟨Keeps.ofBelow hbl⟩⟩

/-- a record whose counts are what they may -/
def RecB (w : World) (b : Nat) (v x0 x1 x2 x3 : Value) (rs : List Int) (m : Nat) : Prop :=
  ∃ (ns : List Int) (gone : Nat), Cells w b 69 [x0, x1, x2, x3, v, .int .i64 (gone : Nat)] ∧ w.ownsRow 0 5 1 v ns.length (bv ns) ∧ gone ≤ ns.length ∧ ns.drop gone = rs ∧ ns.length ≤ m
variable {x0 x1 x2 x3 : Value} {rs : List Int} {m : Nat}
theorem RecB.later {S : Nat → Prop} (h : RecB w b v x0 x1 x2 x3 rs m) (hk : Keeps S w w') (hb : ¬ S b) (hv : ∀ g, v.ownBlock = some g → ¬ S g) : RecB w' b v x0 x1 x2 x3 rs m := by
  obtain ⟨ns, g, hc, hr, h1⟩ := h
  exact ⟨ns, g, hc.later hk hb, owns_later hr hk (fun x hx => hv x hx), h1⟩
/-- rest, whatever the counts -/
theorem rest_b (h : RecB w b v x0 x1 x2 x3 rs m) : Calls Tryd.prog 29 #[ptr b] w fun e w' => ∃ q c, e = .returned (.slice q rs.length c) ∧ Aside (Rd w (.slice q rs.length c) rs) ∧ Aside (Keeps Nowhere w w') := by
  obtain ⟨ns, gone, hc, hr, hg, hd, hl⟩ := h
  obtain ⟨q, c, rfl⟩ := OwnB.shape (B := 0) hr
  have hcap : ns.length ≤ c := by
    obtain ⟨⟨a, c', e, hlc, _⟩, _⟩ := OwnB.rd (B := 0) hr
    injection e with _ e2 e3
    rw [bv_length] at hlc
    omega
  have RD := Aside.mk (RdS.drop (S := Nowhere) (n := gone) (OwnB.rd (B := 0) hr) hg)
  rw [hd] at RD
  obtain ⟨n, hn⟩ : ∃ n, ns.length = n := ⟨_, rfl⟩
  have hlen : rs.length = n - gone := by rw [← hd, List.length_drop, hn]
  rw [hlen]
  rw [hn] at RD hg hcap hc
  have c4 : w.cell? ⟨b, 4, none⟩ = some (.slice q n c) := by rw [hc.cell]; rfl
  have c5 : w.cell? ⟨b, 5, none⟩ = some (.int .i64 gone) := by rw [hc.cell]; rfl
  have hB : c ≤ 9223372036854775807 := by
    rcases hr.2 with ⟨e, _⟩ | ⟨g, cap, cur, e, _, _, _, hm, _⟩
    · injection e with _ _ e; omega
    · injection e with _ _ e
      subst e
      unfold maxLen at hm
      omega
  have g1 : (gone : Int) ≤ (n : Int) := by omega
  have g2 : (n : Int) ≤ (c : Int) := by omega
  have g3 : (c : Int) ≤ 9223372036854775807 := by omega
  clear hr hc hd hl hlen hn hB
  go_enter Tryd.func29, Tryd.ntmps29
  by_cases hcg : c = gone
  · simp only [hcg, if_true] at RD
    have hng : n = gone := by omega
    subst hcg
    subst hng
    simp only [Nat.sub_self] at RD ⊢
    go_wp2
    go_region
    go_wp2
    go_ret
    exact ⟨_, _, rfl, RD, ⟨(Keeps.refl _ _).drew⟩⟩
  · simp only [hcg, if_false] at RD
    go_wp2
    go_region
    go_wp2
    go_ret
    exact ⟨_, _, rfl, RD, ⟨(Keeps.refl _ _).drew⟩⟩
set_option maxHeartbeats 1000000 in
theorem letGo_at {n : Nat} (h : RecB w b v x0 x1 x2 x3 rs m) (hn : n ≤ rs.length) (hm : m ≤ 70368744177664) : Calls Tryd.prog 30 #[ptr b, .int .i64 n] w fun e w' => e = .returned (.tuple #[]) ∧ ∃ v', Aside (RecB w' b v' x0 x1 x2 x3 (rs.drop n) m ∧ Keeps (fun x => x = b ∨ v.ownBlock = some x) w w' ∧ ∀ g, v'.ownBlock = some g → v.ownBlock = some g ∨ w.heap.size ≤ g) := by
  obtain ⟨ns, gone, hc, hr, hg, hd, hl⟩ := h
  have hne := cells_row_ne hc hr (by decide)
  have hlen : rs.length = ns.length - gone := by rw [← hd, List.length_drop]
  have D1 := hc.setCell 5 (.int .i64 ((gone : Int) + (n : Int)))
  have K1 : Aside (Keeps (fun x => x = b) w (w.setCell ⟨b, 5, none⟩ (.int .i64 ((gone : Int) + (n : Int))))) := ⟨(Keeps.refl _ _).setCell _ _ (fun _ => rfl)⟩
  have c5 : w.cell? ⟨b, 5, none⟩ = some (.int .i64 gone) := by rw [hc.cell]; rfl
  have f5 := hc.frozen 5
  obtain ⟨w1, hw1⟩ : ∃ w1, w.setCell ⟨b, 5, none⟩ (.int .i64 ((gone : Int) + (n : Int))) = w1 := ⟨_, rfl⟩
  rw [hw1] at D1 K1
  have R1 : Aside (RecB w1 b v x0 x1 x2 x3 (rs.drop n) m) := ⟨⟨ns, gone + n, by simpa using D1, owns_later hr K1.it (fun x hx e => hne (by rw [hx, e])), by omega, by rw [← List.drop_drop, hd], hl⟩⟩
  have RR := Aside.mk (And.intro hg (And.intro hd hl))
  obtain ⟨l, hll⟩ : ∃ l, (rs.drop n).length = l := ⟨_, rfl⟩
  have HL := Aside.mk hll
  have b1 : (gone : Int) + (n : Int) ≤ 9223372036854775807 := by omega
  have b0 : (0 : Int) ≤ (gone : Int) + (n : Int) := by omega
  have hlm : l ≤ 140737488355328 := by have := HL.it; rw [List.length_drop] at this; omega
  have D1 := Aside.mk D1
  have HNE := Aside.mk hne
  clear hc hr hd hl hlen hne hll hm hg
  go_enter Tryd.func30, Tryd.ntmps30
  go_upto_region 1 with fail
  clear hw1 c5 f5
  have RS := Aside.mk (fun W (kp : Keeps Nowhere w1 W) => rest_b (R1.it.later kp (fun x => x) (fun _ _ x => x)))
  have c5 : w1.cell? ⟨b, 5, none⟩ = some (.int .i64 ((gone : Int) + (n : Int))) := by rw [D1.it.cell]; rfl
  rw [HL.it] at RS
  go_cut [19] (fun t wx => t = .bool (decide ((l : Int) < (gone : Int) + (n : Int))) ∧ Aside (Keeps Nowhere w1 wx))
  case first =>
    go_region_held3 (fun w' => w'.cell? ⟨b, 5, none⟩ = some (.int .i64 ((gone : Int) + (n : Int)))) (first | assumption) (first
      | (go_at_call 29; refine (RS.it _ (Keeps.refl _ _).drew).mono ?_; rintro e w2 ⟨q2, c2, rfl, R2, K2⟩; have e5 : w2.cell? ⟨b, 5, none⟩ = some (.int .i64 ((gone : Int) + (n : Int))) := (by rw [((D1.it.later (S := Nowhere) (Keeps.refl _ _).drew (fun x => x)).later K2.it (fun x => x)).cell]; rfl))
      | fail)
    go_wp2_with fail
    go_meet
    exact ⟨rfl, ⟨(Keeps.refl _ _).drew.trans K2.it⟩⟩
  case rest =>
    obtain ⟨rfl, K2⟩ := hcut
    by_cases hlt : (l : Int) < (gone : Int) + (n : Int)
    · have d1 : decide ((l : Int) < (gone : Int) + (n : Int)) = true := decide_eq_true hlt
      have RS2 := Aside.mk (RS.it wc K2.it)
      rw [d1]
      clear c5 d1
      go_wp2_with (first
        | (go_at_call 29; refine RS2.it.mono ?_; rintro e w3 ⟨q3, c3, rfl, R3, K3⟩
           have CL := Aside.mk (clone_any (R3.it.later K3.it.bel) hlm))
        | (go_at_call 31; refine CL.it.mono ?_; rintro e w4 ⟨q4, c4, rfl, R4, K4⟩
           have D4 := Aside.mk (D1.it.later ((K2.it.trans K3.it).trans K4.it) (fun x => x))
           have e4 : w4.cell? ⟨b, 4, none⟩ = some v := (by rw [D4.it.cell]; rfl)
           have f4 := D4.it.frozen 4
           have e5 : w4.cell? ⟨b, 5, none⟩ = some (.int .i64 ((gone : Int) + (n : Int))) := (by rw [D4.it.cell]; rfl)
           have f5 := D4.it.frozen 5)
        | fail)
      go_end0
      refine ⟨rfl, .slice q4 l c4, ⟨?_, ?_, ?_⟩⟩
      · have x := (D4.it.setCell 4 (.slice q4 l c4)).setCell 5 (.int .i64 0)
        have K5 : Keeps (fun x => x = b) w4 ((w4.setCell ⟨b, 4, none⟩ (.slice q4 l c4)).setCell ⟨b, 5, none⟩ (.int .i64 0)) := ((Keeps.refl (fun x => x = b) w4).setCell _ _ (fun _ => rfl)).setCell _ _ (fun _ => rfl)
        have hr4 : w4.ownsRow 0 5 1 (.slice q4 l c4) (rs.drop n).length (bv (rs.drop n)) := by
          rw [HL.it]
          exact OwnB.mono (B := w3.heap.size) (ns := rs.drop n) (by unfold OwnB; rw [HL.it]; exact R4.it) (Nat.zero_le _) |> fun h => by unfold OwnB at h; rw [HL.it] at h; exact h
        refine ⟨rs.drop n, 0, x, owns_later hr4 K5 (fun y hy e => cells_row_ne D4.it hr4 (by decide) (by rw [hy, e])), Nat.zero_le _, rfl, ?_⟩
        have h1 := RR.it.1
        have h2 := RR.it.2.2
        have h3 : rs.length = ns.length - gone := by rw [← RR.it.2.1, List.length_drop]
        rw [List.length_drop]
        omega
      · have K5 : Keeps (fun x => x = b) w4 ((w4.setCell ⟨b, 4, none⟩ (.slice q4 l c4)).setCell ⟨b, 5, none⟩ (.int .i64 0)) := ((Keeps.refl (fun x => x = b) w4).setCell _ _ (fun _ => rfl)).setCell _ _ (fun _ => rfl)
        exact (((K1.it.mono (fun _ e _ => .inl e)).trans (((K2.it.trans K3.it).trans K4.it).mono (fun _ e _ => e.elim))).trans (K5.mono (fun _ e _ => .inl e)))
      · intro g hg
        right
        have := owns_base R4.it g hg
        have h1 := K1.it.size
        have h2 := (K2.it.trans K3.it).size
        omega
    · have d1 : decide ((l : Int) < (gone : Int) + (n : Int)) = false := decide_eq_false hlt
      rw [d1]
      clear c5 d1
      go_wp2_with fail
      go_end0
      refine ⟨rfl, v, ⟨R1.it.later K2.it (fun x => x) (fun _ _ x => x), (K1.it.mono (fun _ e _ => .inl e)).trans (K2.it.mono (fun _ e _ => e.elim)), fun g hg => .inl hg⟩⟩
set_option maxHeartbeats 1000000 in
theorem gave_at {sv : Value} {ms : List Int} (h : TrO own i w p T L) (hk : Zw k) (hs : Sents 140 codeVars A w) (hr : Rd w sv ms) (hby : ∀ n ∈ ms, 0 ≤ n ∧ n ≤ 255) (hT : T ≤ 70368744177664) (hn : L.length + 1 ≤ 2147483648) :
    Calls Tryd.prog 12 #[ptr p, .int .i64 k, sv] w fun e w' => ∃ ev own', e = .returned ev ∧ Hid (Coded A ev (gaveC L k ms)) ∧ Aside (TrO own' i w' p T (gaveL L k ms) ∧ Sn (fun x => x = i) own w own' w') := by
  have ok := h.ok
  have HO := Aside.mk h
  obtain ⟨mb, F, hI, hp, hmb, hob⟩ := h.it
  have OF := Aside.mk (of_any hI hk)
  have HS := Aside.mk hs
  have HI := Aside.mk hI
  have HB := Aside.mk (And.intro hp (And.intro hmb hob))
  have pc := Aside.mk hI.pc
  have HG := Aside.mk (ok.got k)
  obtain ⟨sa, sc, rfl⟩ := hr.shape
  obtain ⟨m, hm⟩ : ∃ m, ms.length = m := ⟨_, rfl⟩
  have HM := Aside.mk hm
  have HR := Aside.mk hr
  have HBY := Aside.mk hby
  have HK := Aside.mk hk
  rw [hm] at HR ⊢
  have OK := Aside.mk ok
  have HRB : Aside (∀ n ∈ (got L k).rest, 0 ≤ n ∧ n ≤ 255) := ⟨fun n hn => HG.it.byte n (List.mem_of_mem_drop hn)⟩
  have GD : Aside (gaveB L k ms = (decide (ms.length ≤ (got L k).rest.length) && decide ((got L k).rest.take ms.length = ms))) := ⟨rfl⟩
  unfold gaveC gaveL
  cases hgb : gaveB L k ms with
  | false =>
    simp only [Bool.false_eq_true, if_false]
    rw [hgb] at GD
    clear h hs hI hp hmb hob ok hr hm hby hk hgb
    go_enter Tryd.func12, Tryd.ntmps12
    go_upto_region 4 with (first | (go_at_call 27; refine OF.it.mono ?_; rintro e w1 ⟨b, v, rfl, O1⟩) | fail)
    have RS := Aside.mk (rest_at O1.it.r)
    go_wp2_with (first
      | (go_at_call 29; refine RS.it.mono ?_; rintro e w2 ⟨q2, c2, rfl, R2, K2, _⟩
         have HP := Aside.mk (hp_any (R2.it.1.later K2.it.bel) (HR.it.later (O1.it.kp.trans K2.it).bel) HRB.it HBY.it)
         rw [← GD.it] at HP)
      | (go_at_call 28; refine HP.it.mono ?_; rintro e w3 ⟨rfl, hw3⟩; subst hw3
         have s7 := (HS.it.later (O1.it.kp.trans K2.it).bel).cell 38 2 rfl)
      | fail)
    go_ret
    exact ⟨_, own, rfl, Coded.mk 38 39 (by decide) (by decide) rfl, ⟨HO.it.quiet (O1.it.kp.trans K2.it), Sn.same (O1.it.kp.trans K2.it)⟩⟩
  | true =>
    simp only [if_true]
    rw [hgb] at GD
    have hml : m ≤ (got L k).rest.length := by
      have := GD.it.symm
      rw [Bool.and_eq_true, decide_eq_true_eq] at this
      have := this.1
      omega
    have HML := Aside.mk hml
    have hrd := HG.it.rd
    have hln := HG.it.len
    have hrl := Rc.rest_len (got L k)
    have hrm : (got L k).rd + m ≤ (got L k).wr.length := by omega
    have HRM := Aside.mk hrm
    obtain ⟨rd, hrd'⟩ : ∃ rd, (got L k).rd = rd := ⟨_, rfl⟩
    have HRD := Aside.mk hrd'
    have w0 : (rd : Int) + (m : Int) ≤ 9223372036854775807 := by omega
    have w00 : (0 : Int) ≤ (rd : Int) + (m : Int) := by omega
    have hwT : Aside ((got L k).wr.length ≤ 70368744177664) := ⟨by omega⟩
    clear h hs hI hp hmb hob ok hr hm hby hk hgb hrm hrl hln hrd hrd' hml
    go_enter Tryd.func12, Tryd.ntmps12
    go_upto_region 4 with (first | (go_at_call 27; refine OF.it.mono ?_; rintro e w1 ⟨b, v, rfl, O1⟩) | fail)
    have RS := Aside.mk (rest_at O1.it.r)
    have RB : Aside (RecB w1 b v (.int .i64 (((got L k).wr.length : Nat) : Int)) (.int .i64 (((got L k).rd : Nat) : Int)) (.bool (got L k).cl) (.bool (got L k).en) (got L k).rest (got L k).wr.length) := ⟨O1.it.r⟩
    go_upto_region 7 with (first
      | (go_at_call 29; refine RS.it.mono ?_; rintro e w2 ⟨q2, c2, rfl, R2, K2, _⟩
         have HP := Aside.mk (hp_any (R2.it.1.later K2.it.bel) (HR.it.later (O1.it.kp.trans K2.it).bel) HRB.it HBY.it)
         rw [← GD.it] at HP
         have LG := Aside.mk (letGo_at (n := m) (RB.it.later K2.it (fun x => x) (fun _ _ x => x)) HML.it hwT.it))
      | (go_at_call 28; refine HP.it.mono ?_; rintro e w3 ⟨rfl, hw3⟩; subst hw3)
      | (go_at_call 30; refine LG.it.mono ?_; rintro e w4 ⟨rfl, v4, R4⟩)
      | fail)
    obtain ⟨RB4, K4, V4⟩ := R4.it
    have HV4 := Aside.mk V4
    have HK4 := Aside.mk K4
    obtain ⟨ns, gn, hc, hrow, hgn, hdr, hnl⟩ := RB4
    have HNL := Aside.mk (And.intro hgn (And.intro hdr hnl))
    have HC := Aside.mk hc
    have HROW := Aside.mk hrow
    have hbr := Aside.mk (cells_row_ne hc hrow (by decide))
    have c1 : w4.cell? ⟨b, 1, none⟩ = some (.int .i64 (rd : Int)) := by rw [hc.cell, ← HRD.it]; rfl
    have f1 := hc.frozen 1
    clear hc hrow hgn hdr hnl R4 V4 K4 LG RS HP
    go_upto_region 8 with fail
    have D5 := Aside.mk (HC.it.setCell 1 (.int .i64 ((rd : Int) + (m : Int))))
    have K5 : Aside (Keeps (fun x => x = b) w4 (w4.setCell ⟨b, 1, none⟩ (.int .i64 ((rd : Int) + (m : Int))))) := ⟨(Keeps.refl _ _).setCell _ _ (fun _ => rfl)⟩
    generalize w4.setCell ⟨b, 1, none⟩ (.int .i64 ((rd : Int) + (m : Int))) = w5 at D5 K5 ⊢
    clear c1 f1
    have K14 : Aside (Keeps (fun x => x = b ∨ v.ownBlock = some x) w1 w5) := ⟨((K2.it.mono (fun _ e _ => e.elim)).trans HK4.it).trans (K5.it.mono (fun _ e _ => .inl e))⟩
    have M4 := O1.it.map HI.it K14.it
    obtain ⟨w6, hup6, M6, K6⟩ := M4.store (by unfold maxLen; omega) HK.it b
    obtain ⟨ns0, gn0, hc0, hrow0, _⟩ := O1.it.r
    have hpb : p ≠ b := hist_rec_ne (pc.it.later O1.it.kp (fun x => x)) hc0
    have hpv : v.ownBlock ≠ some p := cells_row_ne (pc.it.later O1.it.kp (fun x => x)) hrow0 (by decide)
    have p5 : w5.cell? ⟨p, 0, none⟩ = some (.map (some mb)) := by rw [((pc.it.later O1.it.kp (fun x => x)).later K14.it (fun e => e.elim hpb hpv)).cell]; rfl
    have HM6 := Aside.mk (hm_of M6)
    have HK6 := Aside.mk K6
    clear M4 M6 K6 hc0 hrow0
    go_wp2_with fail
    go_ret
    refine ⟨_, give own w.heap.size i, rfl, Coded.none, ⟨?_⟩⟩
    have hR5 : RecA w5 b v4 { got L k with rd := (got L k).rd + ms.length } := by
      refine ⟨ns, gn, ?_, owns_later HROW.it K5.it (fun x hx e => hbr.it (by rw [hx, e])), HNL.it.1, ?_, HNL.it.2.2⟩
      · have := D5.it
        have e : (((got L k).rd + ms.length : Nat) : Int) = (rd : Int) + (m : Int) := by rw [HRD.it, HM.it]; rfl
        simp only [rcel, e]
        exact this
      · rw [HNL.it.2.1]
        simp only [Rc.rest, List.drop_drop]
        rw [HM.it]
    have okw := OK.it.gave HK.it ms
    unfold gaveL at okw
    rw [show gaveB L k ms = true from GD.it.symm ▸ rfl] at okw
    simp only [if_true] at okw
    have := TrO.fin HI.it HB.it.1 HB.it.2.1 HB.it.2.2 OK.it okw hn O1.it K14.it HK6.it HM6.it hR5 (fun g hg => by
      rcases HV4.it g hg with e | e
      · exact .inl e
      · exact .inr (Nat.le_trans K2.it.size e))
    exact this
theorem rest_raw {hv : Value} {r : Rc} (P : Calls Tryd.prog 27 #[hv, .int .i64 k] w fun e w' => ∃ b v, e = .returned (ptr b) ∧ Aside (RecA w' b v r) ∧ Aside (Keeps Nowhere w w')) (hb : r.rest.length ≤ 140737488355328) :
    Calls Tryd.prog 14 #[hv, .int .i64 k] w fun e w' => ∃ q c, e = .returned (.slice q r.rest.length c) ∧ Aside (w'.ownsRow w.heap.size 5 1 (.slice q r.rest.length c) r.rest.length (bv r.rest)) ∧ Aside (Keeps Nowhere w w') := by
  have PP := Aside.mk P
  obtain ⟨n, hn⟩ : ∃ n, r.rest.length = n := ⟨_, rfl⟩
  have HN := Aside.mk hn
  rw [hn] at hb ⊢
  clear P hn
  go_enter Tryd.func14, Tryd.ntmps14
  go_wp2_with (first
    | (go_at_call 27; refine PP.it.mono ?_; rintro e w1 ⟨b, v, rfl, R1, K1⟩
       have RS := Aside.mk (rest_at R1.it)
       rw [HN.it] at RS)
    | (go_at_call 29; refine RS.it.mono ?_; rintro e w2 ⟨q2, c2, rfl, R2, K2, _⟩
       have CL := Aside.mk (clone_any (R2.it.1.later K2.it.bel) hb))
    | (go_at_call 31; refine CL.it.mono ?_; rintro e w3 ⟨q3, c3, rfl, R3, K3⟩)
    | fail)
  go_ret
  refine ⟨q3, c3, rfl, ⟨?_⟩, ⟨(K1.it.trans K2.it).trans K3.it⟩⟩
  have := OwnB.mono (B' := w.heap.size) (ns := r.rest) (by unfold OwnB; rw [HN.it]; exact R3.it) (K1.it.trans K2.it).size
  unfold OwnB at this
  rw [HN.it] at this
  exact this
theorem restH_at (h : TrO own i w p T L) (hk : Zw k) (hT : T ≤ 70368744177664) : Calls Tryd.prog 14 #[ptr p, .int .i64 k] w fun e w' => ∃ q c, e = .returned (.slice q (got L k).rest.length c) ∧ Aside (w'.ownsRow w.heap.size 5 1 (.slice q (got L k).rest.length c) (got L k).rest.length (bv (got L k).rest)) ∧ Aside (Keeps Nowhere w w') := by
  obtain ⟨mb, F, hI, hp, hmb, hob⟩ := h.it
  refine rest_raw ((of_any hI hk).mono ?_) ?_
  · rintro e w' ⟨b, v, rfl, O⟩
    exact ⟨b, v, rfl, ⟨O.it.r⟩, ⟨O.it.kp⟩⟩
  · have := (h.ok.got k).len
    rw [Rc.rest_len]
    omega
theorem restH_nil (w : World) (hk : Zw k) : Calls Tryd.prog 14 #[.pointer none, .int .i64 k] w fun e w' => ∃ q c, e = .returned (.slice q 0 c) ∧ Aside (w'.ownsRow w.heap.size 5 1 (.slice q 0 c) 0 (bv [])) ∧ Aside (Keeps Nowhere w w') := by
  refine rest_raw (r := rc0) ((of_nil w hk).mono ?_) (by decide)
  rintro e w' ⟨rfl, rfl⟩
  exact ⟨_, .slice none 0 0, rfl, ⟨RecA.new w⟩, ⟨(Keeps.refl _ _).alloc _⟩⟩
end Go.Proofs.YtambdgcogldbgaaDoor

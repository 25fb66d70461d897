/-
  culvertlaw27.MsgBack
-/
import Derived.Test.YtllioaclnkkhhaaDoorMhS
import Derived.Test.YtllioaclnkkhhaaDoorMhP
import Derived.Test.YtllioaclnkkhhaaDoorMhQ
import Derived.Test.YtllioaclnkkhhaaDoorOpenPs
namespace Go.Proofs.YtllioaclnkkhhaaDoor
open Go.RowKit

section
variable {A : Nat → Addr} {w w' W w0 w1 : World} {own own' : Nat → Nat} {p p' most : Nat} {bs : List Int} {v fv ev : Value} {O : MOut} {zs : List PcV}
/-- the messages that may be, of the first ones -/
def keptZ (most : Int) (zs : List PcV) : List (List Int) := (zs.filter (fun z => decide (encE z.ns most = 0))).map (·.ns)
def keptV (most : Int) (zs : List PcV) : List Value := (zs.filter (fun z => decide (encE z.ns most = 0))).map (·.sl)
theorem keptZ_snoc (most : Int) (zs : List PcV) (i : Nat) (z : PcV) (h : zs[i]? = some z) : keptZ most (zs.take (i + 1)) = keptZ most (zs.take i) ++ (if encE z.ns most = 0 then [z.ns] else []) := by
  unfold keptZ
  rw [List.take_add_one, h]
  by_cases hz : encE z.ns most = 0 <;> simp [hz]
theorem keptV_snoc (most : Int) (zs : List PcV) (i : Nat) (z : PcV) (h : zs[i]? = some z) : keptV most (zs.take (i + 1)) = keptV most (zs.take i) ++ (if encE z.ns most = 0 then [z.sl] else []) := by
  unfold keptV
  rw [List.take_add_one, h]
  by_cases hz : encE z.ns most = 0 <;> simp [hz]
theorem kept_len (most : Int) (zs : List PcV) : (keptZ most zs).length ≤ zs.length ∧ ((keptZ most zs).flatMap encM).length ≤ (zs.map (fun z => z.ns.length)).sum + 3 * zs.length := by
  induction zs with
  | nil => simp [keptZ]
  | cons z zs ih =>
    have hl := (lenB_len z.ns.length).2
    by_cases hz : encE z.ns most = 0
    · have e : keptZ most (z :: zs) = z.ns :: keptZ most zs := by simp [keptZ, hz]
      rw [e]
      simp only [List.length_cons, List.flatMap_cons, List.length_append, List.map_cons, List.sum_cons]
      have : (encM z.ns).length = (lenB z.ns.length).length + z.ns.length := by unfold encM; rw [List.length_append]
      omega
    · have e : keptZ most (z :: zs) = keptZ most zs := by simp [keptZ, hz]
      rw [e]
      simp only [List.length_cons, List.map_cons, List.sum_cons]
      omega
theorem mem_sum_le {l : List Nat} {a : Nat} (h : a ∈ l) : a ≤ l.sum := by
  induction l with
  | nil => cases h
  | cons b l ih =>
    rw [List.sum_cons]
    rcases List.mem_cons.1 h with rfl | h
    · omega
    · have := ih h; omega
theorem encE_zero {m : List Int} {x : Int} : encE m x = 0 ↔ 0 ≤ x ∧ x ≤ 1048576 ∧ (m.length : Int) ≤ x := by
  unfold encE
  split
  · constructor
    · intro h; cases h
    · intro h; omega
  · split
    · constructor
      · intro h; cases h
      · intro h; omega
    · constructor
      · intro h; omega
      · intro h; rfl
theorem encM_bytes {m : List Int} (hb : AreBytes m) (hl : m.length < 2097152) : AreBytes (encM m) := by
  intro y hy
  unfold encM at hy
  rcases List.mem_append.1 hy with hy | hy
  · unfold lenB at hy
    split at hy
    · simp at hy; omega
    · split at hy <;> simp at hy <;> omega
  · exact hb y hy
theorem kept_mem {most : Int} {zs : List PcV} {m : List Int} (h : m ∈ keptZ most zs) : ∃ z ∈ zs, m = z.ns ∧ encE z.ns most = 0 := by
  unfold keptZ at h
  obtain ⟨z, h1, rfl⟩ := List.mem_map.1 h
  rw [List.mem_filter] at h1
  exact ⟨z, h1.1, rfl, by simpa using h1.2⟩
theorem parse_nil_rest {most : Nat} (ks : List (List Int)) (h : ∀ m ∈ ks, m.length ≤ most ∧ m.length < 2097152) : parseM most (ks.flatMap encM) = ⟨ks, [], false⟩ := by
  have := parseM_flat (most := most) ks h []
  rw [List.append_nil, parseM_none (most := most) (l := []) rfl] at this
  simpa using this
/-- what was encoded so far, and the messages -/
structure Bk (w1 : World) (own : Nat → Nat) (W : World) (most : Int) (bv wv : Value) (zs : List PcV) : Prop where
  g : Ground w1.heap.size w1 own W
  b : RowB own 5 W bv ((keptZ most zs).flatMap encM)
  r : W.ownsRow 0 28 1 wv (keptV most zs).length (keptV most zs) ∧ ∀ g, wv.ownBlock = some g → own g = 6
  e : EachR w1 (keptV most zs) (keptZ most zs)
theorem Bk.skip {W' : World} {most : Int} {bv wv : Value} {zs : List PcV} {i : Nat} {z : PcV} (h : Bk w1 own W most bv wv (zs.take i)) (hz : zs[i]? = some z) (hne : encE z.ns most ≠ 0) (k : Keeps Nowhere W W') : Bk w1 own W' most bv wv (zs.take (i + 1)) := by
  have e1 : keptZ most (zs.take (i + 1)) = keptZ most (zs.take i) := by rw [keptZ_snoc most zs i z hz, if_neg hne, List.append_nil]
  have e2 : keptV most (zs.take (i + 1)) = keptV most (zs.take i) := by rw [keptV_snoc most zs i z hz, if_neg hne, List.append_nil]
  exact ⟨h.g.quiet k, by rw [e1]; exact h.b.sn (I := fun _ => False) (Sn.same k) (fun x => x), by rw [e2]; exact ⟨owns_later h.r.1 k (fun _ _ x => x), h.r.2⟩, by rw [e1, e2]; exact h.e⟩
theorem Bk.more {W4 w8 w9 : World} {most : Int} {bv wv b' wv' : Value} {zs : List PcV} {i : Nat} {z : PcV} (h : Bk w1 own W most bv wv (zs.take i)) (hz : zs[i]? = some z) (h0 : encE z.ns most = 0) (hzr : Rd w1 z.sl z.ns) (k4 : Keeps Nowhere W W4)
    (o8 : w8.ownsRow 0 5 1 b' ((keptZ most (zs.take i)).flatMap encM ++ encM z.ns).length (Go.Proofs.YtllioaclnkkhhaaDoor.bv ((keptZ most (zs.take i)).flatMap encM ++ encM z.ns))) (k8 : Keeps (fun b => bv.ownBlock = some b) W4 w8) (b8 : ∀ b, b'.ownBlock = some b → bv.ownBlock = some b ∨ W4.heap.size ≤ b)
    (o9 : w9.ownsRow 0 28 1 wv' ((keptV most (zs.take i)).length + 1) (keptV most (zs.take i) ++ [z.sl])) (k9 : Keeps (fun b => wv.ownBlock = some b) (w8.alloc (.cells #[z.sl] 28)) w9) (b9 : ∀ b, wv'.ownBlock = some b → wv.ownBlock = some b ∨ (w8.alloc (.cells #[z.sl] 28)).heap.size ≤ b) :
    ∃ own', Bk w1 own' w9 most b' wv' (zs.take (i + 1)) := by
  have e1 : keptZ most (zs.take (i + 1)) = keptZ most (zs.take i) ++ [z.ns] := by rw [keptZ_snoc most zs i z hz, if_pos h0]
  have e2 : keptV most (zs.take (i + 1)) = keptV most (zs.take i) ++ [z.sl] := by rw [keptV_snoc most zs i z hz, if_pos h0]
  have s4 : Sn (fun _ => False) own W own W4 := Sn.same k4
  have B4 := h.b.sn s4 (fun x => x)
  obtain ⟨B8, s8⟩ := RowB.app B4 o8 k8 b8
  have r8 : w8.ownsRow 0 28 1 wv (keptV most (zs.take i)).length (keptV most (zs.take i)) := owns_later (owns_later h.r.1 k4 (fun _ _ x => x)) k8 (fun b hb e => by
    have h6 := h.r.2 b hb
    have h5 := h.b.2 b e
    omega)
  have ka : Keeps Nowhere w8 (w8.alloc (.cells #[z.sl] 28)) := (Keeps.refl _ _).alloc _
  have hw8 : ∀ b, wv.ownBlock = some b → give own W4.heap.size 5 b = 6 := fun b hb => by rw [give_old (Nat.lt_of_lt_of_le (owns_lt h.r.1 b hb) k4.size)]; exact h.r.2 b hb
  have s9 : Sn (fun k => k = 6) (give own W4.heap.size 5) w8 (give (give own W4.heap.size 5) w8.heap.size 6) w9 := ⟨fun k hk => give_old hk, ka.any.next k9 (fun k e hlt => hw8 k e)⟩
  have s49 : Sn (fun k => k = 5 ∨ k = 6) own W (give (give own W4.heap.size 5) w8.heap.size 6) w9 := ((s4.mono (fun _ x => x.elim)).trans (s8.mono (fun k e => .inl e))).trans (s9.mono (fun k e => .inr e))
  refine ⟨_, h.g.sn s49 (by omega), ?_, ?_, ?_⟩
  · rw [e1, List.flatMap_append]
    have := B8.sn s9 (by decide)
    simpa using this
  · rw [e2]
    refine ⟨by rw [List.length_append]; exact o9, fun g hg => ?_⟩
    rcases b9 g hg with e | e
    · rw [give_old (Nat.lt_of_lt_of_le (owns_lt r8 g e) (Nat.le_refl _))]
      exact hw8 g e
    · exact give_new (Nat.le_trans ka.size e)
  · rw [e1, e2]
    exact h.e.snoc hzr
set_option maxRecDepth 20000 in
set_option maxHeartbeats 4000000 in
theorem msgBack_loop (most : Int) (v : Value) (zs : List PcV) (ca : Value) (za : List Int) (hs : Sents 86 codeVars A w) (hz : PiecesArg w v zs) (C : Holds .i64 w ca za) (hla : za.length ≤ 1048576) :
    Calls Tryd.prog 7 #[.int .i64 most, v, ca] w fun e w' => e = .returned (.bool true) ∧ Below w.heap.size w w' := by
  obtain ⟨hz1, hz2, sa, sc, rfl, hsc1, hsc2, hzc⟩ := hz
  obtain ⟨qa, c1, rfl⟩ := C.len
  obtain ⟨M, hM⟩ : ∃ M, zs.length = M := ⟨_, rfl⟩
  obtain ⟨La, hLa⟩ : ∃ L, za.length = L := ⟨_, rfl⟩
  rw [hLa] at hla C ⊢
  rw [hM] at hz1 hsc1 ⊢
  have F := Aside.mk (fixed27 hs)
  have HZ := Aside.mk hzc
  have HM := Aside.mk (And.intro hM hz2)
  have HC := Aside.mk (And.intro C hla)
  have HS := Aside.mk hs
  clear hs hzc C hla hLa hM hz2
  go_enter Tryd.func7, Tryd.ntmps7
  go_upto_region 5 with (first | (go_at_call 13; refine F.it.mono ?_; clear F; rintro e w1 ⟨rfl, B1⟩) | fail)
  have K0 : Aside (Bk w1 (fun _ => 0) w1 most (.slice none 0 0) (.slice none 0 0) []) := ⟨⟨fun _ _ => rfl, Below.refl _ _, Nat.le_refl _⟩, RowB.nil _ _ _, ⟨World.ownsRow_nil _ _ _ _, fun g hg => by simp [Value.ownBlock] at hg⟩, trivial⟩
  go_upto_region 6 with fail
  go_loopw [7, 8, 20] (fun bv wv iv wr => ∃ (i : Nat) (own : Nat → Nat) (qb : Option Addr) (lb cb : Nat) (qw : Option Addr) (lw cw : Nat), bv = .slice qb lb cb ∧ wv = .slice qw lw cw ∧ iv = .int .i64 i ∧ i ≤ M ∧ Aside (Bk w1 own wr most (.slice qb lb cb) (.slice qw lw cw) (zs.take i))) (fun _ _ iv _ => M - natG iv)
  case atStart => exact ⟨0, _, none, 0, 0, none, 0, 0, rfl, rfl, rfl, Nat.zero_le _, K0⟩
  case round =>
    clear K0
    obtain ⟨i, own, qb, lb, cb, qw, lw, cw, rfl, rfl, rfl, hi, K⟩ := hrel
    have B2 : Aside (Below w.heap.size w wr) := ⟨B1.it.trans (K.it.g.bel.mono B1.it.size)⟩
    rcases Nat.eq_or_lt_of_le hi with e | hlt
    · subst e
      have hti : zs.take i = zs := List.take_of_length_le (by rw [HM.it.1]; exact Nat.le_refl _)
      rw [hti] at K
      obtain ⟨_, _, eb⟩ := K.it.b.shape
      obtain ⟨bs, hbs⟩ : ∃ bs, (keptZ most zs).flatMap encM = bs := ⟨_, rfl⟩
      obtain ⟨ks, hks⟩ : ∃ ks, keptZ most zs = ks := ⟨_, rfl⟩
      have hbl : lb = bs.length := by injection eb with _ e _; rw [← hbs]; exact e
      have KL := kept_len most zs
      rw [hbs] at KL
      have RB := K.it.b.rd
      rw [hbs] at RB
      have HKB : ∀ m ∈ ks, AreBytes m ∧ m.length ≤ 1048576 := fun m hm => by
        rw [← hks] at hm
        obtain ⟨z, hz, rfl, _⟩ := kept_mem hm
        obtain ⟨k, hk⟩ := List.mem_iff_getElem?.1 hz
        obtain ⟨_, _, _, _, ⟨_, _, hb⟩, _⟩ := HZ.it k z hk
        have h1 : z.ns.length ≤ (zs.map (fun z => z.ns.length)).sum := mem_sum_le (List.mem_map.2 ⟨z, hz, rfl⟩)
        have := HM.it.2
        exact ⟨hb, by omega⟩
      have hbb : AreBytes bs := fun y hy => by
        rw [← hbs, hks] at hy
        obtain ⟨m, hm, hy⟩ := List.mem_flatMap.1 hy
        exact encM_bytes (HKB m hm).1 (by have := (HKB m hm).2; omega) y hy
      have hb16 : bs.length ≤ 16777216 := by have := HM.it.1; have := HM.it.2; omega
      have hkl : Aside (ks.length ≤ 16777216) := ⟨by have := HM.it.1; rw [← hks]; omega⟩
      subst hbl
      by_cases hmo : 0 ≤ most ∧ most ≤ 1048576
      · obtain ⟨mn, rfl⟩ := Int.eq_ofNat_of_zero_le hmo.1
        have hmn : mn ≤ 1048576 := by omega
        have hpar : parseM mn bs = ⟨ks, [], false⟩ := by
          rw [← hbs, hks]
          refine parse_nil_rest ks (fun m hm => ?_)
          have h2 := (HKB m hm).2
          rw [← hks] at hm
          obtain ⟨z, hz, rfl, he⟩ := kept_mem hm
          have := (encE_zero.1 he).2.2
          omega
        have GA := Aside.mk (gives27 (HS.it.later B2.it) hmn qb bs.length cb RB hbb hb16 qa La c1 (HC.it.1.later27 B2.it) HC.it.2)
        have HP := Aside.mk hpar
        have HK2 := Aside.mk (And.intro hks HKB)
        clear RB hbb hb16 hpar HKB hks hbs KL eb hti hi hmn hmo
        go_upto_region 16 with (first | (go_at_call 22; refine GA.it.mono ?_; clear GA; rintro e w2 ⟨fqa, fla, fca, eva, pa, owa, rfl, CA, XA⟩) | fail)
        rw [HP.it] at CA XA
        obtain rfl := Coded.zero (show Coded A eva 0 from CA.out)
        have B3 : Aside (Below w.heap.size w w2) := ⟨B2.it.trans (XA.it.1.mono B2.it.size)⟩
        have LA := Aside.mk (XA.it.2.looks CA)
        have SM : Aside (Calls Tryd.prog 17 #[.slice fqa fla fca, .slice qw lw cw] w2 fun e w' => e = .returned (.bool true) ∧ ∃ m, w' = w2.drewN m) := ⟨by
          have hw : RdR w2 (.slice qw lw cw) ks := by
            have h1 : RdR wr (.slice qw lw cw) (keptZ mn zs) := ⟨_, (owns_reads K.it.r.1).1.mono (fun _ x _ => x.elim), K.it.e.later K.it.g.bel⟩
            rw [HK2.it.1] at h1
            obtain ⟨vs, r1, r2⟩ := h1
            exact ⟨vs, r1.below XA.it.1, r2.later XA.it.1⟩
          have := same27R (XA.it.2.row.rdR) hw (fun x hx => (HK2.it.2 x hx).1) (fun x hx => (HK2.it.2 x hx).1) hkl.it hkl.it
          simpa using this⟩
        have LH := Aside.mk LA.it.held
        have LD := Aside.mk LA.it.done
        clear CA XA K
        go_wp2_with (first
          | (go_at_call 17; refine SM.it.mono ?_; clear SM; rintro e w4 ⟨rfl, m4, rfl⟩)
          | (go_at_call 18; refine (LH.it _ ((Keeps.refl _ _).drewN _)).mono ?_; clear LH; rintro e w5 ⟨rfl, m5, rfl⟩)
          | (go_at_call 20; refine (LD.it _ ((Keeps.refl _ _).drewN _)).mono ?_; clear LD; rintro e w6 ⟨ev6, rfl, C6, m6, rfl⟩; obtain rfl := Coded.zero (show Coded A ev6 0 from C6.out))
          | fail)
        go_ret
        exact ⟨by simp, B3.it.trans (((Keeps.refl Nowhere w2).drewN _).bel.mono B3.it.size)⟩
      · have hmo2 : most < 0 ∨ 1048576 < most := by omega
        have GA := Aside.mk (gives27_bad (HS.it.later B2.it) hmo2 qb bs.length cb qa La c1)
        clear RB hbb hb16 HKB hks hbs KL eb hti hi hmo
        generalize bs.length = lbb at GA ⊢
        rcases hmo2 with h | h
        · have h1 : decide (most < 0) = true := decide_eq_true h
          go_wp2_with (first | (go_at_call 22; refine GA.it.mono ?_; clear GA; rintro e w2 ⟨rfl, K2⟩) | fail)
          go_ret
          exact ⟨by simp, B2.it.trans (K2.it.bel.mono B2.it.size)⟩
        · have h1 : ¬ most < 0 := by omega
          go_wp2_with (first | (go_at_call 22; refine GA.it.mono ?_; clear GA; rintro e w2 ⟨rfl, K2⟩) | fail)
          go_ret
          exact ⟨by simp, B2.it.trans (K2.it.bel.mono B2.it.size)⟩
    · obtain ⟨z, hzi⟩ : ∃ z, zs[i]? = some z := ⟨_, List.getElem?_eq_getElem (by rw [HM.it.1]; exact hlt)⟩
      obtain ⟨gz, oz, cs, rfl, ⟨rfl, hzr, hzb⟩, _, hcs⟩ := HZ.it i z hzi
      have cz : wr.cell? ⟨gz, oz + i, none⟩ = some z.sl := by
        have := hcs 0 (by decide)
        rw [Nat.mul_one, Nat.add_zero] at this
        rw [B2.it.cell (World.block_lt_of_cell? w _ this)]
        exact this
      obtain ⟨pz, kz, hzsl⟩ := hzr.shape
      obtain ⟨n, hn⟩ : ∃ n, z.ns.length = n := ⟨_, rfl⟩
      rw [hn] at hzsl
      have E1 := Aside.mk (encodeM (A := A) (most := most) (hzr.later B2.it) (by
        have hh : z.ns.length ≤ (zs.map (fun z => z.ns.length)).sum := mem_sum_le (List.mem_map.2 ⟨z, List.mem_of_getElem? hzi, rfl⟩)
        have := HM.it.2
        omega) (HS.it.later B2.it))
      have HZI := Aside.mk hzi
      have HZR := Aside.mk (hzr.later B1.it)
      have HN := Aside.mk hn
      have HSL := Aside.mk hzsl
      rw [hzsl] at cz E1
      have hlt' : (i : Int) < (M : Int) := by omega
      clear hcs hzr hzi hn hzb
      by_cases h0 : encE z.ns most = 0
      · have HE := Aside.mk h0
        have hev : encV z.ns most = encM z.ns := by unfold encV; rw [if_pos h0]
        rw [hev, h0] at E1
        obtain ⟨h1, h2, h3⟩ := encE_zero.1 h0
        rw [HN.it] at h3
        clear h0 hev hzsl
        go_upto_region 9 with (first | (go_at_call 11; refine E1.it.mono ?_; clear E1; rintro e w4 ⟨q4, l4, c4, ev4, rfl, C4, O4, K4⟩) | fail)
        obtain rfl := Coded.zero C4.out
        have KL : Aside ((keptZ most (zs.take i)).length ≤ 1048576 ∧ ((keptZ most (zs.take i)).flatMap encM).length ≤ 4194304) := ⟨by
          have h9 := kept_len most (zs.take i)
          have hs1 : ((zs.take i).map (fun z => z.ns.length)).sum ≤ (zs.map (fun z => z.ns.length)).sum := by
            conv => rhs; rw [← List.take_append_drop i zs, List.map_append, List.sum_append]
            omega
          have := HM.it.2
          have hl : (zs.take i).length ≤ 1048576 := by rw [List.length_take]; omega
          omega⟩
        have HVL : Aside ((keptV most (zs.take i)).length = (keptZ most (zs.take i)).length) := ⟨by simp [keptV, keptZ]⟩
        have hnb : Aside (n ≤ 1048576) := ⟨by omega⟩
        have OB5 : Aside (w4.ownsRow 0 5 1 (.slice qb lb cb) ((keptZ most (zs.take i)).flatMap encM).length (bv ((keptZ most (zs.take i)).flatMap encM))) := ⟨owns_later K.it.b.1 K4.it (fun _ _ x => x)⟩
        have bnd : Aside (((keptZ most (zs.take i)).flatMap encM).length + (encM z.ns).length ≤ 140737488355328) := ⟨by
          have := KL.it.2
          have h3 := (lenB_len z.ns.length).2
          have : (encM z.ns).length = (lenB z.ns.length).length + z.ns.length := by unfold encM; rw [List.length_append]
          have := HN.it
          have := hnb.it
          omega⟩
        have RO : Aside (Rd w4 (.slice q4 l4 c4) (encM z.ns)) := ⟨O4.it.rd⟩
        have hv1 : Aside (∀ u ∈ [Value.slice pz n kz], u.oneCell' = true) := ⟨by simp [Value.oneCell']⟩
        go_wp2_with (first
          | (at_builtin; refine wpList_appendO rfl (.tmp 47) (.tmp 48) rfl (.slice qb lb cb) (.slice q4 l4 c4) ((keptZ most (zs.take i)).flatMap encM) (encM z.ns) OB5.it RO.it bnd.it rfl rfl ?_; intro q8 l8 c8 w8 O8 K8 B8
             have RW8 : Aside (w8.ownsRow 0 28 1 (.slice qw lw cw) (keptV most (zs.take i)).length (keptV most (zs.take i))) := ⟨owns_later (owns_later K.it.r.1 K4.it (fun _ _ x => x)) K8.it (fun b hb e => by have h6 := K.it.r.2 b hb; have h5 := K.it.b.2 b e; omega)⟩)
          | (at_builtin; refine wpList_appendR rfl (.tmp 50) (.tmp 52) 31 rfl 28 (.slice none 0 0) 1 24 Tryd.underlying31 linfo rfl (by decide) w8 ((Keeps.refl _ _).alloc _) 0 (.slice qw lw cw) _ _ RW8.it _ 1 [.slice pz n kz] (readsK_new w8 28 [.slice pz n kz]) hv1.it (by rw [HVL.it]; have := KL.it.1; omega) (by rw [HVL.it]; have := KL.it.1; unfold maxLen; omega) (Nat.zero_le _) rfl rfl ?_; intro v9 w9 O9 K9 B9; obtain ⟨q9, l9, c9, rfl⟩ := owns_shapeK O9.it)
          | fail)
        go_roundw
        case rel =>
          obtain ⟨own9, X⟩ := Bk.more K.it HZI.it HE.it HZR.it K4.it O8.it K8.it B8.it (HSL.it ▸ O9.it) (HSL.it ▸ K9.it) (HSL.it ▸ B9.it)
          exact ⟨i + 1, own9, q8, l8, c8, q9, l9, c9, rfl, rfl, by go_num, by omega, ⟨X⟩⟩
        case measure => simp [natG]; omega
      · have HE := Aside.mk h0
        have hno : most < 0 ∨ 1048576 < most ∨ most < (n : Int) := by
          apply Classical.byContradiction
          intro hh
          exact h0 (encE_zero.2 ⟨by omega, by omega, by rw [HN.it]; omega⟩)
        clear h0 hzsl
        by_cases h1 : most < 0
        · have h1' : ¬ 0 ≤ most := by omega
          clear hno
          go_wp2_with (first | (go_at_call 11; refine E1.it.mono ?_; clear E1; rintro e w4 ⟨q4, l4, c4, ev4, rfl, C4, O4, K4⟩; obtain ⟨a4, rfl⟩ := Coded.pos C4.out HE.it) | fail)
          go_roundw
          case rel => exact ⟨i + 1, own, qb, lb, cb, qw, lw, cw, rfl, rfl, by go_num, by omega, ⟨K.it.skip HZI.it HE.it K4.it⟩⟩
          case measure => simp [natG]; omega
        · have h1' : 0 ≤ most := by omega
          by_cases h2 : 1048576 < most
          · have h2' : ¬ most ≤ 1048576 := by omega
            clear hno
            go_wp2_with (first | (go_at_call 11; refine E1.it.mono ?_; clear E1; rintro e w4 ⟨q4, l4, c4, ev4, rfl, C4, O4, K4⟩; obtain ⟨a4, rfl⟩ := Coded.pos C4.out HE.it) | fail)
            go_roundw
            case rel => exact ⟨i + 1, own, qb, lb, cb, qw, lw, cw, rfl, rfl, by go_num, by omega, ⟨K.it.skip HZI.it HE.it K4.it⟩⟩
            case measure => simp [natG]; omega
          · have h2' : most ≤ 1048576 := by omega
            have h3 : ¬ (n : Int) ≤ most := by omega
            clear hno
            go_wp2_with (first | (go_at_call 11; refine E1.it.mono ?_; clear E1; rintro e w4 ⟨q4, l4, c4, ev4, rfl, C4, O4, K4⟩; obtain ⟨a4, rfl⟩ := Coded.pos C4.out HE.it) | fail)
            go_roundw
            case rel => exact ⟨i + 1, own, qb, lb, cb, qw, lw, cw, rfl, rfl, by go_num, by omega, ⟨K.it.skip HZI.it HE.it K4.it⟩⟩
            case measure => simp [natG]; omega
theorem msgBack_walkU (most : Int) (v : Value) (zs : List PcV) (c : Value) (za : List Int) (w : World) (hs : Sents 86 codeVars A w) (hz : PiecesArg w v zs) (hc : IntsArgU w c za) :
    Calls Tryd.prog 7 #[.int .i64 most, v, c] w fun e w' => e = .returned (.bool true) ∧ Below w.heap.size w w' := msgBack_loop most v zs c za hs hz hc.1 hc.2
end
end Go.Proofs.YtllioaclnkkhhaaDoor

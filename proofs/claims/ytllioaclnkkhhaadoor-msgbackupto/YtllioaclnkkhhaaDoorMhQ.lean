/-
  culvertlaw27.MsgAll
-/
import Derived.Test.YtllioaclnkkhhaaDoorMhP
namespace Go.Proofs.YtllioaclnkkhhaaDoor
open Go.RowKit

section
variable {A : Nat → Addr} {w w' W w0 : World} {own own' : Nat → Nat} {p p' most : Nat} {bs : List Int} {v fv ev : Value} {O : MOut}
theorem RowL.at {d d2 : Nat} {rs : List (List Int)} (h : RowL own d d2 W fv rs) : ∃ a c, fv = .slice a rs.length c ∧ rs.length ≤ c ∧ ∀ (k : Nat) (r : List Int), rs[k]? = some r → ∃ g o v, a = some ⟨g, o, none⟩ ∧ W.cell? ⟨g, o + k, none⟩ = some v ∧ RdO (fun _ => 9) 9 W v r :=
  RdL.at (h.rdl (own' := fun _ => 9) (d' := 9) (fun _ _ => rfl))
theorem enc_pos (m : List Int) : 1 ≤ (encM m).length := by unfold encM; rw [List.length_append]; have := (lenB_len m.length).1; omega
theorem flat_at (ms : List (List Int)) (i : Nat) (m : List Int) (t : List Int) (hm : ms[i]? = some m) : ms.flatMap encM ++ t = (ms.take i).flatMap encM ++ (encM m ++ ((ms.drop (i + 1)).flatMap encM ++ t)) := by
  have e : ms = ms.take i ++ m :: ms.drop (i + 1) := by
    have h1 := List.getElem?_eq_some_iff.1 hm
    obtain ⟨hlt, he⟩ := h1
    rw [← he, List.getElem_cons_drop, List.take_append_drop]
  conv => lhs; rw [e]
  simp [List.flatMap_append]
theorem flat_snoc (ms : List (List Int)) (i : Nat) (m : List Int) (hm : ms[i]? = some m) : (ms.take (i + 1)).flatMap encM = (ms.take i).flatMap encM ++ encM m := by
  rw [List.take_add_one, hm]
  simp [List.flatMap_append]
theorem encE_ok {m : List Int} (h : m.length ≤ most) (hm : most ≤ 1048576) : encE m most = 0 := by unfold encE; rw [if_neg (by omega), if_neg (by omega)]
theorem encV_ok {m : List Int} (h : m.length ≤ most) (hm : most ≤ 1048576) : encV m most = encM m := by unfold encV; rw [if_pos (encE_ok h hm)]
set_option maxRecDepth 20000 in
set_option maxHeartbeats 4000000 in
theorem msgAll_good (hm : most ≤ 1048576) (v : Value) (bs : List Int) (ca : Value) (za : List Int) (hs : Sents 86 codeVars A w) (R : Rd w v bs) (hb : AreBytes bs) (hL : bs.length ≤ 1048576) (C : Holds .i64 w ca za) (hla : za.length ≤ 1048576) :
    Calls Tryd.prog 8 #[.int .i64 most, v, ca] w fun e w' => e = .returned (.bool true) ∧ Below w.heap.size w w' := by
  obtain ⟨q, c, rfl⟩ := R.shape
  obtain ⟨qa, c1, rfl⟩ := C.len
  have hcL : bs.length ≤ c := by
    have := R.1.len
    rw [bv_length] at this
    omega
  obtain ⟨L, hLe⟩ : ∃ L, bs.length = L := ⟨_, rfl⟩
  obtain ⟨La, hLa⟩ : ∃ L, za.length = L := ⟨_, rfl⟩
  rw [hLa] at hla C
  rw [hLe] at R hcL
  have F := Aside.mk (fixed27 hs)
  have GA := Aside.mk (fun W (hW : Below w.heap.size w W) => gives27 (hs.later hW) hm q L c (R.later hW) hb (by omega) qa La c1 (C.later27 hW) hla)
  have EN := Aside.mk (fun W (hW : Below w.heap.size w W) (x : Value) (m : List Int) (hr : Rd W x m) (hl : m.length ≤ most) => encE_ok hl hm ▸ encV_ok hl hm ▸ encodeM (A := A) (most := (most : Int)) hr (by omega) (hs.later hW))
  obtain ⟨O, hO⟩ : ∃ O, parseM most bs = O := ⟨_, rfl⟩
  have SP := parseM_spec (most := most) bs hb
  rw [hO] at SP
  have SP := Aside.mk SP
  have OB : Aside ((∀ x ∈ O.ms, AreBytes x) ∧ O.ms.length ≤ 16777216) := ⟨by rw [← hO]; exact parse_bytes hb, by rw [← hO]; have := parse_cnt most bs; omega⟩
  have HO := Aside.mk hO
  have HL := Aside.mk (And.intro hLe hL)
  have HR := Aside.mk R
  have HB := Aside.mk hb
  have HS := Aside.mk hs
  obtain ⟨tl, htl⟩ : ∃ tl, Aside (bs = O.ms.flatMap encM ++ tl ∧ (O.dead = false → tl = O.rest) ∧ (O.dead = true → tl ≠ [] ∧ O.rest = [])) := by
    rcases SP.it.2 with ⟨d1, d2⟩ | ⟨d1, d2, t, d3, d4⟩
    · exact ⟨O.rest, ⟨d2, fun _ => rfl, fun e => (by rw [d1] at e; cases e)⟩⟩
    · exact ⟨t, ⟨d3, fun e => (by rw [d1] at e; cases e), fun _ => ⟨fun e => (by rw [e] at d4; cases d4), d2⟩⟩⟩
  rw [hLe, hLa]
  clear hs R hb hL C hla hLe hLa hm hO
  go_enter Tryd.func8, Tryd.ntmps8
  go_wp2_with (go_at_call 13; refine F.it.mono ?_; rintro e w1 ⟨rfl, B1⟩)
  go_upto_region 4 with (first | (go_at_call 22; refine (GA.it w1 B1.it).mono ?_; rintro e w2 ⟨fqa, fla, fca, eva, pa, owa, rfl, CA, XA⟩; have B2 : Aside (Below w.heap.size w w2) := ⟨B1.it.trans (XA.it.1.mono B1.it.size)⟩) | fail)
  rw [HO.it] at CA XA
  obtain ⟨xq, xc, ex, hxc, hxat⟩ := XA.it.2.row.at
  injection ex with ex1 ex2 ex3
  subst ex1 ex2 ex3
  have HX := Aside.mk hxat
  obtain ⟨M, hM⟩ : ∃ M, O.ms.length = M := ⟨_, rfl⟩
  rw [hM] at hxc XA ⊢
  have HM := Aside.mk hM
  have LA := Aside.mk (XA.it.2.looks CA)
  have CA := Aside.mk CA
  have S2 := Aside.mk XA.it.2.L.g.sents
  clear hxat hM GA F

  go_upto_region 8 with fail
  go_loopw [10, 35] (fun av iv wr => ∃ (a i : Nat), av = .int .i64 a ∧ iv = .int .i64 i ∧ i ≤ M ∧ Aside (((O.ms.take i).flatMap encM).length = a) ∧ Aside (Keeps Nowhere w2 wr)) (fun _ iv _ => M - natG iv)
  case atStart => exact ⟨0, 0, rfl, rfl, Nat.zero_le _, ⟨rfl⟩, ⟨Keeps.refl _ _⟩⟩
  case round =>
    obtain ⟨a, i, rfl, rfl, hi, HA, KR⟩ := hrel
    have B3 : Aside (Below w.heap.size w wr) := ⟨B2.it.trans (KR.it.bel.mono B2.it.size)⟩
    have hLb2 : L ≤ 1048576 := by have := HL.it.2; rw [HL.it.1] at this; exact this
    have hMb : M ≤ 16777216 := by have := OB.it.2; rw [HM.it] at this; exact this
    rcases Nat.eq_or_lt_of_le hi with e | hlt
    · subst e
      have ha : Aside (a + tl.length = L ∧ (O.ms.flatMap encM).length = a) := ⟨by
        have h1 := HA.it
        rw [List.take_of_length_le (by rw [HM.it]; exact Nat.le_refl _)] at h1
        have h2 := congrArg List.length htl.it.1
        rw [List.length_append, h1, HL.it.1] at h2
        exact ⟨h2.symm, h1⟩⟩
      have HD := Aside.mk (LA.it.held wr KR.it)
      have DN := Aside.mk (LA.it.done wr KR.it)
      cases hd : O.dead with
      | false =>
        have e1 : codeM O = 0 := by unfold codeM; rw [hd]; rfl
        rw [e1] at CA
        obtain rfl := Coded.zero CA.it.out
        have htr := htl.it.2.1 hd
        rw [← htr] at HD
        have hdn : doneC tl O.dead = if 0 < tl.length then 3 else 0 := by unfold doneC; rw [hd]; rfl
        obtain ⟨n, hn⟩ : ∃ n, tl.length = n := ⟨_, rfl⟩
        rw [hn] at HD ha
        have q3 : ((n : Int) == (L : Int) - (a : Int)) = true := by have := ha.it.1; simp; omega
        have NR : Aside (∀ W', Keeps Nowhere w2 W' → Calls Tryd.prog 20 #[ptr pa] W' fun e w' => ∃ ev, e = .returned ev ∧ Hid (Coded A ev (if 0 < n then 3 else 0)) ∧ ∃ m, w' = W'.drewN m) := ⟨fun W' k => by have := LA.it.done W' k; rw [← htr, hdn, hn] at this; exact this⟩
        have HSa := Aside.mk (And.intro ha.it.1 HL.it)
        have haL : a ≤ L := by have := ha.it.1; omega
        clear e1 hdn htr hn hd
        by_cases h0 : 0 < n
        · rw [if_pos h0] at NR
          have q1 : ((a : Int) == L) = false := by have := HSa.it.1; simp; omega
          have q2 : (a == L) = false := by have := HSa.it.1; simp; omega
          go_wp2_with (first
            | (go_at_call 18; refine HD.it.mono ?_; clear HD; rintro e w5 ⟨rfl, m5, rfl⟩)
            | (go_at_call 20; refine (NR.it _ (KR.it.drewN m5)).mono ?_; rintro e w6 ⟨ev6, rfl, C6, m6, rfl⟩; obtain ⟨a6, rfl⟩ := Coded.pos C6.out (by decide))
            | fail)
          go_ret
          exact ⟨by simp, B3.it.trans (((Keeps.refl Nowhere wr).drewN _).bel.mono B3.it.size)⟩
        · rw [if_neg h0] at NR
          have q1 : ((a : Int) == L) = true := by have := HSa.it.1; simp; omega
          have q2 : (a == L) = true := by have := HSa.it.1; simp; omega
          go_wp2_with (first
            | (go_at_call 18; refine HD.it.mono ?_; clear HD; rintro e w5 ⟨rfl, m5, rfl⟩)
            | (go_at_call 20; refine (NR.it _ (KR.it.drewN m5)).mono ?_; rintro e w6 ⟨ev6, rfl, C6, m6, rfl⟩; obtain rfl := Coded.zero C6.out)
            | fail)
          go_ret
          exact ⟨by simp, B3.it.trans (((Keeps.refl Nowhere wr).drewN _).bel.mono B3.it.size)⟩
      | true =>
        have e1 : codeM O = 15 := by unfold codeM; rw [hd]; rfl
        rw [e1] at CA
        obtain ⟨ae, rfl⟩ := Coded.pos CA.it.out (by decide)
        have htr := htl.it.2.2 hd
        have hn0 : O.rest.length = 0 := by rw [htr.2]; rfl
        have NC : Aside (∀ W', Keeps Nowhere w2 W' → Calls Tryd.prog 10 #[.iface 86 (.pointer (some ae))] W' fun e w' => e = .returned (.int .i64 15) ∧ w' = W') := ⟨fun W' k => by have := LA.it.code W' k; rw [e1] at this; exact this⟩
        have NH : Aside (∀ W', Keeps Nowhere w2 W' → Calls Tryd.prog 18 #[ptr pa] W' fun e w' => e = .returned (.int .i64 0) ∧ ∃ m, w' = W'.drewN m) := ⟨fun W' k => by have := LA.it.held W' k; rw [hn0] at this; exact this⟩
        have hdn : doneC O.rest O.dead = 34 := by unfold doneC; rw [hd]; rfl
        have ND : Aside (∀ W', Keeps Nowhere w2 W' → Calls Tryd.prog 20 #[ptr pa] W' fun e w' => ∃ ev, e = .returned ev ∧ Hid (Coded A ev 34) ∧ ∃ m, w' = W'.drewN m) := ⟨fun W' k => by have := LA.it.done W' k; rw [hdn] at this; exact this⟩
        have hlt2 : (a : Int) < (L : Int) := by have := ha.it.1; have h1 : 0 < tl.length := List.length_pos_iff.2 htr.1; omega
        have hlt3 : a < L := by omega
        clear e1 htr hn0 hdn hd HD DN
        go_wp2_with (first
          | (go_at_call 10; refine (NC.it _ KR.it).mono ?_; clear NC; rintro e w5 ⟨rfl, hw5⟩; rw [hw5]; clear hw5)
          | (go_at_call 18; refine (NH.it _ KR.it).mono ?_; clear NH; rintro e w6 ⟨rfl, m6, rfl⟩)
          | (go_at_call 20; refine (ND.it _ (KR.it.drewN m6)).mono ?_; clear ND; rintro e w7 ⟨ev7, rfl, C7, m7, rfl⟩; have CD7 := Aside.mk (fun W' (k : Keeps Nowhere w2 W') => code_of (S2.it.later k.bel) C7.out))
          | (go_at_call 10; refine (CD7.it _ (KR.it.drewN _)).mono ?_; rintro e w8 ⟨rfl, hw8⟩; rw [hw8]; clear hw8)
          | fail)
        go_ret
        exact ⟨by simp, B3.it.trans (((Keeps.refl Nowhere wr).drewN _).bel.mono B3.it.size)⟩
    · obtain ⟨m, hmi⟩ : ∃ m, O.ms[i]? = some m := ⟨_, List.getElem?_eq_getElem (by rw [HM.it]; exact hlt)⟩
      obtain ⟨gx, ox, vx, rfl, cx, rx⟩ := HX.it i m hmi
      have cx' : wr.cell? ⟨gx, ox + i, none⟩ = some vx := by rw [KR.it.bel.cell (World.block_lt_of_cell? w2 _ cx)]; exact cx
      obtain ⟨pm, km, rfl⟩ := rx.1.shape
      have hml : m.length ≤ most := SP.it.1 m (List.mem_of_getElem? hmi)
      have hmb : AreBytes m := OB.it.1 m (List.mem_of_getElem? hmi)
      have E1 := Aside.mk (EN.it wr B3.it _ m (rx.1.later KR.it.bel) hml)
      have hfl := flat_at O.ms i m tl hmi
      rw [← htl.it.1] at hfl
      obtain ⟨n, hn⟩ : ∃ n, (encM m).length = n := ⟨_, rfl⟩
      have hn1 := enc_pos m
      rw [hn] at hn1
      have hlen : a + n ≤ L := by
        have h2 := congrArg List.length hfl
        rw [List.length_append, List.length_append, HA.it, hn, HL.it.1] at h2
        omega
      have hseg : (bs.drop a).take n = encM m := by
        rw [hfl, ← HA.it, List.drop_left, ← hn, List.take_left]
      have r0 : RdS Nowhere wr (.slice q L c) bs := (HR.it.later B3.it)
      have RS := (r0.seg (a := a) (n := n) (by rw [HL.it.1]; exact hlen)).rd
      rw [hseg, if_neg (by omega)] at RS
      have RS := Aside.mk RS
      have HN2 : Aside ((((O.ms.take (i + 1)).flatMap encM).length) = a + n) := ⟨by rw [flat_snoc O.ms i m hmi, List.length_append, HA.it, hn]⟩
      obtain ⟨S, hS⟩ : ∃ S, strOf (encM m) = S := ⟨_, rfl⟩
      have HSt := Aside.mk hS
      have HLL := HL.it.2
      rw [HL.it.1] at HLL
      generalize m.length = lm at cx cx' E1
      have hcL' : (a : Int) + n ≤ c := by omega
      have g0 : ¬ (L : Int) < (a : Int) + n := by omega
      have hw1 : IntKind.i64.wrap ((a : Int) + n) = (a : Int) + n := by rw [IntKind.wrap_i64]; omega
      have g1 : a + n - a = n := by omega
      have g2 : ¬ c = a := by omega
      have g3 : ¬ L < a + n := by omega
      have g4 : decide (L < a + n) = false := decide_eq_false g3
      have g5 : decide ((L : Int) < (a : Int) + n) = false := decide_eq_false g0
      have HNn := Aside.mk hn
      have hlt' : (i : Int) < (M : Int) := by omega
      clear hmb hml rx cx hfl hseg r0 hS hn hmi
      go_upto_region 11 with (first | (go_at_call 11; refine E1.it.mono ?_; clear E1; rintro e w4 ⟨q4, l4, c4, ev4, rfl, C4, O4, K4⟩) | fail)
      obtain rfl := Coded.zero C4.out
      have h4 : l4 = n := by obtain ⟨_, _, e⟩ := OwnB.shape O4.it; injection e with _ e; rw [e, HNn.it]
      subst h4
      have V1 : ∀ x, (convert 28 9 (.slice q4 l4 c4)).run Tryd.prog (w4.drewN x) = .ok (.string S) (w4.drewN x) := fun x => by
        rw [← HSt.it]
        exact rd_conv27 (O4.it.rd.later ((Keeps.refl Nowhere w4).drewN x).bel)
      have V2 : ∀ x, (convert 28 9 (.slice (q.map (fun x => x.add a)) l4 (c - a))).run Tryd.prog (w4.drewN x) = .ok (.string S) (w4.drewN x) := fun x => by
        rw [← HSt.it]
        exact rd_conv27 (RS.it.later (K4.it.drewN x).bel)
      go_quiet (fail)
      go_wp2_with fail
      go_roundw
      case rel => exact ⟨a + l4, i + 1, by go_num, by go_num, by omega, HN2, ⟨(KR.it.trans K4.it).drewN _⟩⟩
      case measure => simp [natG]; omega
set_option maxHeartbeats 2000000 in
theorem msgAll_bad {most : Int} (h : most < 0 ∨ 1048576 < most) (v : Value) (bs : List Int) (ca : Value) (za : List Int) (hs : Sents 86 codeVars A w) (R : Rd w v bs) (C : Holds .i64 w ca za) :
    Calls Tryd.prog 8 #[.int .i64 most, v, ca] w fun e w' => e = .returned (.bool true) ∧ Below w.heap.size w w' := by
  obtain ⟨q, c, rfl⟩ := R.shape
  obtain ⟨qa, c1, rfl⟩ := C.len
  generalize bs.length = L
  generalize za.length = La
  have F := Aside.mk (fixed27 hs)
  have GA := Aside.mk (fun W (hW : Below w.heap.size w W) q L c x y z => gives27_bad (hs.later hW) h q L c x y z)
  clear hs R C
  rcases h with h | h
  · have h1 : decide (most < 0) = true := decide_eq_true h
    go_enter Tryd.func8, Tryd.ntmps8
    go_wp2_with (first
      | (go_at_call 13; refine F.it.mono ?_; rintro e w1 ⟨rfl, B1⟩)
      | (go_at_call 22; refine (GA.it w1 B1.it _ _ _ _ _ _).mono ?_; rintro e w2 ⟨rfl, k2⟩; have B2 : Aside (Below w.heap.size w w2) := ⟨B1.it.trans (k2.it.bel.mono B1.it.size)⟩)
      | fail)
    go_ret
    exact ⟨by simp, B2.it⟩
  · have h0 : ¬ most < 0 := by omega
    go_enter Tryd.func8, Tryd.ntmps8
    go_wp2_with (first
      | (go_at_call 13; refine F.it.mono ?_; rintro e w1 ⟨rfl, B1⟩)
      | (go_at_call 22; refine (GA.it w1 B1.it _ _ _ _ _ _).mono ?_; rintro e w2 ⟨rfl, k2⟩; have B2 : Aside (Below w.heap.size w w2) := ⟨B1.it.trans (k2.it.bel.mono B1.it.size)⟩)
      | fail)
    go_ret
    exact ⟨by simp, B2.it⟩
theorem msgAll_walkU (most : Int) (v : Value) (bs : List Int) (c : Value) (zs : List Int) (w : World) (hs : Sents 86 codeVars A w) (hz : BytesArgU w v bs) (hc : IntsArgU w c zs) :
    Calls Tryd.prog 8 #[.int .i64 most, v, c] w fun e w' => e = .returned (.bool true) ∧ Below w.heap.size w w' := by
  by_cases h : 0 ≤ most ∧ most ≤ 1048576
  · obtain ⟨n, rfl⟩ := Int.eq_ofNat_of_zero_le h.1
    exact msgAll_good (by omega) v bs c zs hs hz.1 hz.2.1 hz.2.2 hc.1 hc.2
  · exact msgAll_bad (by omega) v bs c zs hs hz.1 hc.1
end
end Go.Proofs.YtllioaclnkkhhaaDoor

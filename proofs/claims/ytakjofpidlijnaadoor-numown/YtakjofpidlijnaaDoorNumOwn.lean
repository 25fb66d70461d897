/-
  NumOwn: the walk.
-/
import Derived.Test.YtakjofpidlijnaaDoorNumGet0
import Derived.Test.YtakjofpidlijnaaDoorNumAwake
import Derived.Test.YtakjofpidlijnaaDoorApartC
import Derived.Test.YtakjofpidlijnaaDoorOpenB
namespace Go.Proofs.YtakjofpidlijnaaDoor
open Go.RowKit

def be4 (v : Int) : List Int := [v / 16777216, v / 65536 % 256, v / 256 % 256, v % 256]
def be2 (v : Int) : List Int := [v / 256, v % 256]
theorem alloc2_below (w : World) (x y : Obj) : Below w.heap.size w ((w.alloc x).alloc y) := ((Below.refl _ _).alloc (Nat.le_refl _) _).alloc (by simp) _
theorem alloc_below (w : World) (o : Obj) : Below w.heap.size w (w.alloc o) := (Below.refl _ _).alloc (Nat.le_refl _) o

structure NAt (A : Nat → Addr) (w : World) (d : Value) (ns : List Int) (W : World) : Prop where
  sS : Sents 59 codeVars A W
  bB : Below w.heap.size w W
  rR : Rd W d ns
theorem NAt.later {A : Nat → Addr} {w W W' : World} {d : Value} {ns : List Int} (h : NAt A w d ns W) (hb : Below W.heap.size W W') : NAt A w d ns W' := ⟨h.sS.later hb, h.bB.trans (hb.mono h.bB.size), h.rR.later hb⟩
section
variable {A : Nat → Addr} {w : World} {d : Value} {ns : List Int}
theorem bytes32_n (v : Int) (W : World) (h : Aside (NAt A w d ns W)) (h0 : 0 ≤ v) (h1 : v ≤ 4294967295) :
    Calls Tryd.prog 5 #[.int .u32 v] W fun e w' => ∃ p c, e = .returned (.slice p 4 c) ∧ Aside (OwnB w.heap.size w' (.slice p 4 c) (be4 v)) ∧ Aside (Span W w' (.slice p 4 c)) ∧ Aside (NAt A w d ns w') ∧ Aside (Below W.heap.size W w') := by
  refine (bytes32_any v W h0 h1).mono ?_
  rintro e w' ⟨rfl, rfl⟩
  have hb := alloc2_below W (.cells #[.int .u8 (v / 16777216), .int .u8 (v / 65536 % 256), .int .u8 (v / 256 % 256), .int .u8 (v % 256)] 40) (.cells #[.int .u8 (v / 16777216), .int .u8 (v / 65536 % 256), .int .u8 (v / 256 % 256), .int .u8 (v % 256)] 5)
  have hO := own_newA (B := w.heap.size) (W.alloc (.cells #[.int .u8 (v / 16777216), .int .u8 (v / 65536 % 256), .int .u8 (v / 256 % 256), .int .u8 (v % 256)] 40)) (be4 v) 4 rfl (by have := h.it.bB.size; simp; omega) (by decide)
  have hz : (W.alloc (.cells #[.int .u8 (v / 16777216), .int .u8 (v / 65536 % 256), .int .u8 (v / 256 % 256), .int .u8 (v % 256)] 40)).heap.size = W.heap.size + 1 := by simp
  rw [hz] at hO
  refine ⟨_, _, rfl, ⟨hO⟩, ⟨fun b hb' => ?_⟩, ⟨h.it.later hb⟩, ⟨hb⟩⟩
  have e : W.heap.size + 1 = b := by simpa [Value.ownBlock] using hb'
  exact ⟨by omega, hO.lt b hb'⟩
theorem bytes16_n (v : Int) (W : World) (h : Aside (NAt A w d ns W)) (h0 : 0 ≤ v) (h1 : v ≤ 65535) :
    Calls Tryd.prog 6 #[.int .u16 v] W fun e w' => ∃ p c, e = .returned (.slice p 2 c) ∧ Aside (OwnB w.heap.size w' (.slice p 2 c) (be2 v)) ∧ Aside (Span W w' (.slice p 2 c)) ∧ Aside (NAt A w d ns w') ∧ Aside (Below W.heap.size W w') := by
  refine (bytes16_any v W h0 h1).mono ?_
  rintro e w' ⟨rfl, rfl⟩
  have hb := alloc2_below W (.cells #[.int .u8 (v / 256), .int .u8 (v % 256)] 41) (.cells #[.int .u8 (v / 256), .int .u8 (v % 256)] 5)
  have hO := own_newA (B := w.heap.size) (W.alloc (.cells #[.int .u8 (v / 256), .int .u8 (v % 256)] 41)) (be2 v) 2 rfl (by have := h.it.bB.size; simp; omega) (by decide)
  have hz : (W.alloc (.cells #[.int .u8 (v / 256), .int .u8 (v % 256)] 41)).heap.size = W.heap.size + 1 := by simp
  rw [hz] at hO
  refine ⟨_, _, rfl, ⟨hO⟩, ⟨fun b hb' => ?_⟩, ⟨h.it.later hb⟩, ⟨hb⟩⟩
  have e : W.heap.size + 1 = b := by simpa [Value.ownBlock] using hb'
  exact ⟨by omega, hO.lt b hb'⟩
end
theorem getD_byte {ns : List Int} (b : AreBytes ns) (i : Nat) : 0 ≤ ns.getD i 0 ∧ ns.getD i 0 ≤ 255 := by
  by_cases h : i < ns.length
  · have e : ns.getD i 0 = ns[i] := by simp [List.getD, h]
    rw [e]
    exact b _ (List.getElem_mem h)
  · have e : ns.getD i 0 = 0 := by simp [List.getD, h]
    rw [e]
    omega
theorem get16_n {A : Nat → Addr} {B : Nat} (g l c : Nat) (ns : List Int) (W : World) (hs : Sents 59 codeVars A W) (ho : OwnB B W (.slice (some ⟨g, 0, none⟩) l c) ns) (hl : l = ns.length) (hb : AreBytes ns) :
    Calls Tryd.prog 7 #[.slice (some ⟨g, 0, none⟩) l c] W fun e w' => ∃ a b, e = .returned (.tuple #[a, b]) ∧ Below W.heap.size W w' := by
  by_cases h : l < 2
  · refine (get16_short _ l c W hs h).mono ?_
    rintro e w' ⟨rfl, hbe⟩
    exact ⟨_, _, rfl, hbe⟩
  · obtain ⟨g', c', e, hc⟩ := ho.at (by omega)
    injection e with e1 _ _
    injection e1 with e1
    injection e1 with e1
    subst e1
    have h0 := hc 0 (by omega)
    have h1 := hc 1 (by omega)
    refine (get16_ok g 0 l c W _ _ (by omega) h0 h1 (getD_byte hb 0).1 (getD_byte hb 0).2 (getD_byte hb 1).1 (getD_byte hb 1).2).mono ?_
    rintro e w' ⟨rfl, hbe⟩
    exact ⟨_, _, rfl, hbe⟩
theorem get32_n {A : Nat → Addr} {B : Nat} (g l c : Nat) (ns : List Int) (W : World) (hs : Sents 59 codeVars A W) (ho : OwnB B W (.slice (some ⟨g, 0, none⟩) l c) ns) (hl : l = ns.length) (hb : AreBytes ns) :
    Calls Tryd.prog 8 #[.slice (some ⟨g, 0, none⟩) l c] W fun e w' => ∃ a b, e = .returned (.tuple #[a, b]) ∧ Below W.heap.size W w' := by
  by_cases h : l < 4
  · refine (get32_short _ l c W hs h).mono ?_
    rintro e w' ⟨rfl, hbe⟩
    exact ⟨_, _, rfl, hbe⟩
  · obtain ⟨g', c', e, hc⟩ := ho.at (by omega)
    injection e with e1 _ _
    injection e1 with e1
    injection e1 with e1
    subst e1
    refine (get32_ok g 0 l c W _ _ _ _ (by omega) (hc 0 (by omega)) (hc 1 (by omega)) (hc 2 (by omega)) (hc 3 (by omega)) (getD_byte hb 0).1 (getD_byte hb 0).2 (getD_byte hb 1).1 (getD_byte hb 1).2 (getD_byte hb 2).1 (getD_byte hb 2).2 (getD_byte hb 3).1 (getD_byte hb 3).2).mono ?_
    rintro e w' ⟨rfl, hbe⟩
    exact ⟨_, _, rfl, hbe⟩

theorem wrap16 (v : Int) : 0 ≤ IntKind.u16.wrap v ∧ IntKind.u16.wrap v ≤ 65535 := by
  have e : IntKind.u16.wrap v = v % 65536 := rfl
  rw [e]
  omega
theorem wrap32 (v : Int) : 0 ≤ IntKind.u32.wrap v ∧ IntKind.u32.wrap v ≤ 4294967295 := by
  have e : IntKind.u32.wrap v = v % 4294967296 := rfl
  rw [e]
  omega
theorem own_cap {B g l c : Nat} {w : World} {ns : List Int} (h : OwnB B w (.slice (some ⟨g, 0, none⟩) l c) ns) (hl : ns.length = l) : l ≤ c := by
  rcases id h.2 with ⟨e, _⟩ | ⟨g', cap, cur, e, _, _, h1, _⟩
  · cases e
  · injection e with _ e2 e3
    subst e3
    omega
/-- Apart of six lists -/
theorem apart6 (B : Nat) (w : World) (own : Nat → Nat) (p c0 : Nat) (v1 v2 v3 v4 v5 v6 : Value) (n1 n2 n3 n4 n5 n6 : List Int) (hB : B ≤ w.heap.size) (hO : OutP w p [v1, v2, v3, v4, v5, v6]) (h0 : own p = 0) (hc : 6 ≤ c0)
    (h1 : OwnB B w v1 n1) (h2 : OwnB B w v2 n2) (h3 : OwnB B w v3 n3) (h4 : OwnB B w v4 n4) (h5 : OwnB B w v5 n5) (h6 : OwnB B w v6 n6) (m1 : Mine own 1 v1) (m2 : Mine own 2 v2) (m3 : Mine own 3 v3) (m4 : Mine own 4 v4) (m5 : Mine own 5 v5) (m6 : Mine own 6 v6)
    (l1 : n1.length ≤ 140737488355000) (l2 : n2.length ≤ 140737488355000) (l3 : n3.length ≤ 140737488355000) (l4 : n4.length ≤ 140737488355000) (l5 : n5.length ≤ 140737488355000) (l6 : n6.length ≤ 140737488355000) :
    Calls Tryd.prog 9 #[.slice (some ⟨p, 0, none⟩) 6 c0] w fun e w' => e = .returned (.bool true) ∧ Below B w w' := by
  refine apart_walk B w own p c0 [v1, v2, v3, v4, v5, v6] (fun j => ([n1, n2, n3, n4, n5, n6] : List (List Int)).getD j []) hB hO h0 (by show 6 ≤ 1000; omega) hc ?_
  intro j v hv
  match j, hv with
  | 0, hv => injection hv with e; subst e; exact ⟨h1, m1, l1⟩
  | 1, hv => injection hv with e; subst e; exact ⟨h2, m2, l2⟩
  | 2, hv => injection hv with e; subst e; exact ⟨h3, m3, l3⟩
  | 3, hv => injection hv with e; subst e; exact ⟨h4, m4, l4⟩
  | 4, hv => injection hv with e; subst e; exact ⟨h5, m5, l5⟩
  | 5, hv => injection hv with e; subst e; exact ⟨h6, m6, l6⟩
  | j + 6, hv => cases hv
/-- the owners, by the calls' heaps -/
def ownN (s1 s2 s3 s4 s5 s6 s9 b : Nat) : Nat :=
  if b < s1 then 0 else if b < s2 then 1 else if b < s3 then 2 else if b < s4 then 3 else if b < s5 then 4 else if b < s6 then 5 else if b < s6 + 1 then 0 else if b < s9 then 6 else 0
theorem ownN_at (s1 s2 s3 s4 s5 s6 s9 b : Nat) (h1 : s1 ≤ s2) (h2 : s2 ≤ s3) (h3 : s3 ≤ s4) (h4 : s4 ≤ s5) (h5 : s5 ≤ s6) (h6 : s6 + 1 ≤ s9) :
    (s1 ≤ b ∧ b < s2 → ownN s1 s2 s3 s4 s5 s6 s9 b = 1) ∧ (s2 ≤ b ∧ b < s3 → ownN s1 s2 s3 s4 s5 s6 s9 b = 2) ∧ (s3 ≤ b ∧ b < s4 → ownN s1 s2 s3 s4 s5 s6 s9 b = 3) ∧ (s4 ≤ b ∧ b < s5 → ownN s1 s2 s3 s4 s5 s6 s9 b = 4) ∧
      (s5 ≤ b ∧ b < s6 → ownN s1 s2 s3 s4 s5 s6 s9 b = 5) ∧ (s6 + 1 ≤ b ∧ b < s9 → ownN s1 s2 s3 s4 s5 s6 s9 b = 6) ∧ (b = s6 ∨ s9 ≤ b → ownN s1 s2 s3 s4 s5 s6 s9 b = 0) := by
  unfold ownN
  refine ⟨?_, ?_, ?_, ?_, ?_, ?_, ?_⟩ <;> intro h <;> (repeat' split) <;> omega
set_option maxRecDepth 20000 in
set_option maxHeartbeats 4000000 in
theorem numOwn_law {A : Nat → Addr} (v : Int) (d : Value) (ns : List Int) (w : World) (hs : Sents 59 codeVars A w) (hv0 : 0 ≤ v) (hv1 : v ≤ 4294967295) (hr : Rd w d ns) (hbt : AreBytes ns) (hn : ns.length ≤ 140737488351232) :
    Calls Tryd.prog 3 #[.int .u32 v, d] w fun e w' => e = .returned (.bool true) ∧ Below w.heap.size w w' := by
  obtain ⟨a, c, hd⟩ := hr.shape
  subst hd
  have AW := Aside.mk (awake_true w hs)
  have N0 : Aside (NAt A w (.slice a ns.length c) ns w) := ⟨⟨hs, Below.refl _ _, hr⟩⟩
  have BT := Aside.mk hbt
  have HN := Aside.mk hn
  have hn' : (ns.length : Int) ≤ 140737488351232 := by omega
  clear hs hr hbt
  have hw : 0 ≤ IntKind.u16.wrap v ∧ IntKind.u16.wrap v ≤ 65535 := wrap16 v
  have hx : 0 ≤ IntKind.u32.wrap (v + 1) ∧ IntKind.u32.wrap (v + 1) ≤ 4294967295 := wrap32 (v + 1)
  go_enter Tryd.func3, Tryd.ntmps3
  go_wp2_with (first
    | (go_at_call 4; refine AW.it.mono ?_; rintro e w1 ⟨rfl, K1⟩; have N1 := Aside.mk (N0.it.later K1); clear K1)
    | (have _u := O5; clear _u; go_at_call 5; refine (bytes32_n _ _ N5 (by omega) (by omega)).mono ?_; rintro e w6 ⟨p6, c6, rfl, O6, P6, N6, K6⟩
       have hz7 : (w6.alloc (.cells #[.slice p2 4 c2, .slice p3 4 c3, .slice p4 2 c4, .slice p5 2 c5, .slice p6 4 c6] 23)).heap.size = w6.heap.size + 1 := by simp
       have O7 : Aside (OwnB (w6.heap.size + 1) ((w6.alloc (.cells #[.slice p2 4 c2, .slice p3 4 c3, .slice p4 2 c4, .slice p5 2 c5, .slice p6 4 c6] 23)).alloc (.cells #[] 5)) (.slice (some ⟨w6.heap.size + 1, 0, none⟩) 0 0) []) := ⟨by have := own_newA (B := w6.heap.size + 1) (w6.alloc (.cells #[.slice p2 4 c2, .slice p3 4 c3, .slice p4 2 c4, .slice p5 2 c5, .slice p6 4 c6] 23)) [] 0 rfl (by rw [hz7]; exact Nat.le_refl _) (Nat.zero_le _); rwa [hz7] at this⟩
       have R7 := Aside.mk (N6.it.rR.later (alloc2_below w6 (.cells #[.slice p2 4 c2, .slice p3 4 c3, .slice p4 2 c4, .slice p5 2 c5, .slice p6 4 c6] 23) (.cells #[] 5)))
       have Z7 : Aside ((w6.alloc (.cells #[.slice p2 4 c2, .slice p3 4 c3, .slice p4 2 c4, .slice p5 2 c5, .slice p6 4 c6] 23)).heap.size = w6.heap.size + 1 ∧ w6.heap.size + 1 ≤ ((w6.alloc (.cells #[.slice p2 4 c2, .slice p3 4 c3, .slice p4 2 c4, .slice p5 2 c5, .slice p6 4 c6] 23)).alloc (.cells #[] 5)).heap.size) := ⟨hz7, by simp⟩
       clear hz7)
    | (have _u := O7; clear _u; at_builtin; refine wpList_appendB rfl (.tmp 24) (.tmp 25) rfl (w6.heap.size + 1) _ _ [] ns O7.it R7.it (by have := HN.it; show 0 + ns.length ≤ _; omega) Z7.it.2 rfl rfl ?_; intro x8 w8 o8 k8
       have O8 := Aside.mk (o8.it.later (alloc_below w8 (.cells #[.int .u8 7, .int .u8 8, .int .u8 9] 5)))
       have R8 := Aside.mk (rd_newA w8 [7, 8, 9] 3 rfl)
       have Z8 : Aside (w6.heap.size + 1 ≤ (w8.alloc (.cells #[.int .u8 7, .int .u8 8, .int .u8 9] 5)).heap.size) := ⟨by have h1 := Z7.it.2; have h2 := k8.it.size; simp; omega⟩)
    | (have _u := O8; clear _u; at_builtin; refine wpList_appendB rfl (.tmp 26) (.tmp 27) rfl (w6.heap.size + 1) _ _ ([] ++ ns) [7, 8, 9] O8.it R8.it (by have := HN.it; show ns.length + 3 ≤ _; omega) Z8.it rfl rfl ?_; intro x9 w9 o9 k9
       have K9 : Aside (Below (w6.heap.size + 1) (w6.alloc (.cells #[.slice p2 4 c2, .slice p3 4 c3, .slice p4 2 c4, .slice p5 2 c5, .slice p6 4 c6] 23)) w9) := ⟨((((Below.refl _ _).alloc (by have := Z7.it.1; omega) _).trans k8.it).alloc (Nat.le_trans Z7.it.2 k8.it.size) _).trans k9.it⟩
       have N9 := Aside.mk (N6.it.later ((alloc_below w6 (.cells #[.slice p2 4 c2, .slice p3 4 c3, .slice p4 2 c4, .slice p5 2 c5, .slice p6 4 c6] 23)).trans (K9.it.mono (by omega))))
       obtain ⟨g, cg, hx9, _⟩ := o9.it.at (by simp)
       have e3 : (([] ++ ns) ++ [7, 8, 9] : List Int).length = ns.length + 3 := by simp
       rw [e3] at hx9
       subst hx9
       clear e3
       have hgc : ns.length + 3 ≤ cg := own_cap o9.it (by simp)
       have hgc' : ((ns.length : Int)) ≤ (cg : Int) := by omega
       have OF : Aside (OwnB (w6.heap.size + 1) w9 (.slice (some ⟨g, 0, none⟩) ns.length cg) ns) := ⟨by have h := o9.it.front ns.length (by simp); simpa using h⟩
       have O9 : Aside (OwnB (w6.heap.size + 1) w9 (.slice (some ⟨g, 0, none⟩) (ns.length + 3) cg) (ns ++ [7, 8, 9])) := ⟨by simpa using o9.it⟩
       have s9 := run_bytesStr (P := Tryd.prog) w9 23 9 5 _ _ Tryd.underlying23 Tryd.underlying5 Tryd.underlying9 O9.it.holds
       clear o9)
    | (go_at_call 7; refine (get16_n _ _ _ ns _ N9.it.sS OF.it rfl BT.it).mono ?_; rintro e w10 ⟨r1, r2, rfl, K10⟩; have N10 := Aside.mk (N9.it.later K10); have OF10 := Aside.mk (OF.it.later K10); have B10 := Aside.mk K10; clear K10)
    | (go_at_call 8; refine (get32_n _ _ _ ns _ N10.it.sS OF10.it rfl BT.it).mono ?_; rintro e w11 ⟨r3, r4, rfl, K11⟩; have N11 := Aside.mk (N10.it.later K11); have B11 := Aside.mk (B10.it.trans (K11.mono B10.it.size)); clear K11)
    | (have _u := O4; clear _u; go_at_call 6; refine (bytes16_n _ _ N4 (by omega) (by omega)).mono ?_; rintro e w5 ⟨p5, c5, rfl, O5, P5, N5, K5⟩)
    | (have _u := O3; clear _u; go_at_call 6; refine (bytes16_n _ _ N3 (by omega) (by omega)).mono ?_; rintro e w4 ⟨p4, c4, rfl, O4, P4, N4, K4⟩)
    | (have _u := O2; clear _u; go_at_call 5; refine (bytes32_n _ _ N2 (by omega) (by omega)).mono ?_; rintro e w3 ⟨p3, c3, rfl, O3, P3, N3, K3⟩)
    | (go_at_call 5; refine (bytes32_n _ _ N1 (by omega) (by omega)).mono ?_; rintro e w2 ⟨p2, c2, rfl, O2, P2, N2, K2⟩))
  have M6 : Below w6.heap.size w6 w11 := (alloc_below w6 (.cells #[.slice p2 4 c2, .slice p3 4 c3, .slice p4 2 c4, .slice p5 2 c5, .slice p6 4 c6] 23)).trans ((K9.it.mono (by omega)).trans (B11.it.mono (by have := K9.it.size; have := Z7.it.1; omega)))
  have M5 : Below w5.heap.size w5 w11 := K6.it.trans (M6.mono K6.it.size)
  have M4 : Below w4.heap.size w4 w11 := K5.it.trans (M5.mono K5.it.size)
  have M3 : Below w3.heap.size w3 w11 := K4.it.trans (M4.mono K4.it.size)
  have M2 : Below w2.heap.size w2 w11 := K3.it.trans (M3.mono K3.it.size)
  have Q2 := Aside.mk (O2.it.later M2)
  have Q3 := Aside.mk (O3.it.later M3)
  have Q4 := Aside.mk (O4.it.later M4)
  have Q5 := Aside.mk (O5.it.later M5)
  have Q6 := Aside.mk (O6.it.later M6)
  have Q9 := Aside.mk (O9.it.later B11.it)
  have QF := Aside.mk ((OF.it.later B11.it).mono (show w.heap.size ≤ w6.heap.size + 1 by have := N6.it.bB.size; omega))
  have CL : Cells w11 w6.heap.size 23 [.slice p2 4 c2, .slice p3 4 c3, .slice p4 2 c4, .slice p5 2 c5, .slice p6 4 c6] := (B11.it.block _ (by have := K9.it.size; have := Z7.it.1; omega)).trans ((K9.it.block _ (by omega)).trans (Cells.new w6 23 [.slice p2 4 c2, .slice p3 4 c3, .slice p4 2 c4, .slice p5 2 c5, .slice p6 4 c6]))
  have l0 := CL.cell 0
  have l1 := CL.cell 1
  have l2 := CL.cell 2
  have l3 := CL.cell 3
  have CL := Aside.mk CL
  have PF : Aside (∀ b, (Value.slice (some ⟨g, 0, none⟩) ns.length cg).ownBlock = some b → w6.heap.size + 1 ≤ b ∧ b < w9.heap.size) := ⟨fun b hb => ⟨OF.it.base b hb, OF.it.lt b hb⟩⟩
  have SZ : Aside (w.heap.size ≤ w1.heap.size ∧ w1.heap.size ≤ w2.heap.size ∧ w2.heap.size ≤ w3.heap.size ∧ w3.heap.size ≤ w4.heap.size ∧ w4.heap.size ≤ w5.heap.size ∧ w5.heap.size ≤ w6.heap.size ∧ w6.heap.size + 1 ≤ w9.heap.size ∧ w9.heap.size ≤ w11.heap.size) := ⟨N1.it.bB.size, K2.it.size, K3.it.size, K4.it.size, K5.it.size, K6.it.size, (by have := K9.it.size; have := Z7.it.1; omega), B11.it.size⟩
  have s2 : ∀ k, (convert 23 9 (.slice p2 4 c2)).run Tryd.prog (w11.drewN k) = .ok (.string (strOf (be4 v))) (w11.drewN k) := fun k => run_bytesStr (P := Tryd.prog) (w11.drewN k) 23 9 5 _ _ Tryd.underlying23 Tryd.underlying5 Tryd.underlying9 (Q2.it.later (below_drewN (Below.refl _ _) k)).holds
  have s3 : ∀ k, (convert 23 9 (.slice p3 4 c3)).run Tryd.prog (w11.drewN k) = .ok (.string (strOf (be4 v))) (w11.drewN k) := fun k => run_bytesStr (P := Tryd.prog) (w11.drewN k) 23 9 5 _ _ Tryd.underlying23 Tryd.underlying5 Tryd.underlying9 (Q3.it.later (below_drewN (Below.refl _ _) k)).holds
  have s4 : ∀ k, (convert 23 9 (.slice p4 2 c4)).run Tryd.prog (w11.drewN k) = .ok (.string (strOf (be2 (IntKind.u16.wrap v)))) (w11.drewN k) := fun k => run_bytesStr (P := Tryd.prog) (w11.drewN k) 23 9 5 _ _ Tryd.underlying23 Tryd.underlying5 Tryd.underlying9 (Q4.it.later (below_drewN (Below.refl _ _) k)).holds
  have s5 : ∀ k, (convert 23 9 (.slice p5 2 c5)).run Tryd.prog (w11.drewN k) = .ok (.string (strOf (be2 (IntKind.u16.wrap v)))) (w11.drewN k) := fun k => run_bytesStr (P := Tryd.prog) (w11.drewN k) 23 9 5 _ _ Tryd.underlying23 Tryd.underlying5 Tryd.underlying9 (Q5.it.later (below_drewN (Below.refl _ _) k)).holds
  have s9 : ∀ k, (convert 23 9 (.slice (some ⟨g, 0, none⟩) (ns.length + 3) cg)).run Tryd.prog (w11.drewN k) = .ok (.string (strOf (ns ++ [7, 8, 9]))) (w11.drewN k) := fun k => run_bytesStr (P := Tryd.prog) (w11.drewN k) 23 9 5 _ _ Tryd.underlying23 Tryd.underlying5 Tryd.underlying9 (Q9.it.later (below_drewN (Below.refl _ _) k)).holds
  clear M6 M5 M4 M3 M2 K2 K3 K4 K5 K6 O2 O3 O4 O5 O6 O7 O8 O9 OF OF10 K9 B10 B11 R7 R8 Z7 Z8 k8 k9 o8 N0 N1 N2 N3 N4 N5 N6 N9 N10 AW
  go_quiet (fail)
  have OL : Aside ((w11.drewN nq).ownsRow w6.heap.size 23 1 (.slice (some ⟨w6.heap.size, 0, none⟩) 5 5) 5 [.slice p2 4 c2, .slice p3 4 c3, .slice p4 2 c4, .slice p5 2 c5, .slice p6 4 c6]) := ⟨by
    refine ⟨rfl, .inr ⟨w6.heap.size, 5, _, rfl, Nat.le_refl _, CL.it, Nat.le_refl _, by decide, rfl, rfl⟩⟩⟩
  have HB : Aside (w6.heap.size ≤ (w11.drewN nq).heap.size) := ⟨by have := SZ.it; show w6.heap.size ≤ w11.heap.size; omega⟩
  clear s2 s3 s4 s5 s9 l0 l1 l2 l3
  go_wp2_with (at_builtin; refine wpList_appendR rfl (.tmp 67) (.tmp 72) 28 rfl 23 (.slice none 0 0) 1 24 Tryd.underlying28 bytesInfo rfl (by decide) (w11.drewN nq) ((Keeps.refl _ _).alloc _) w6.heap.size _ 5 [.slice p2 4 c2, .slice p3 4 c3, .slice p4 2 c4, .slice p5 2 c5, .slice p6 4 c6] OL.it _ 1 [(.slice (some ⟨g, 0, none⟩) ns.length cg)] (readsK_new (w11.drewN nq) 23 [(.slice (some ⟨g, 0, none⟩) ns.length cg)]) (by intro u hu; simp at hu; subst hu; rfl) (by decide) (by decide) HB.it rfl rfl ?_; intro v' w' O' K' B'
               rcases id O'.it.2 with ⟨hv', h0'⟩ | ⟨p', cap', cur', hv', hb', hg', hn', hm', hs', ht'⟩
               · exact absurd h0' (by decide)
               subst hv')
  have KK : Keeps (fun b => b = w6.heap.size) w11 w' := (((Keeps.refl (fun b => b = w6.heap.size) w11).drewN nq).alloc _).trans (K'.it.mono (fun b hb _ => by simpa [Value.ownBlock, eq_comm] using hb))
  have hsz := SZ.it
  have OUT : OutP w' p' ([.slice p2 4 c2, .slice p3 4 c3, .slice p4 2 c4, .slice p5 2 c5, .slice p6 4 c6] ++ [(.slice (some ⟨g, 0, none⟩) ns.length cg)]) := ⟨cur'.toList.drop 6, by
    unfold Cells
    rw [hg']
    have e : ([.slice p2 4 c2, .slice p3 4 c3, .slice p4 2 c4, .slice p5 2 c5, .slice p6 4 c6] ++ [(.slice (some ⟨g, 0, none⟩) ns.length cg)]) ++ cur'.toList.drop 6 = cur'.toList := by
      rw [← ht']
      exact List.take_append_drop 6 _
    rw [e]⟩
  have hp' : p' = w6.heap.size ∨ w11.heap.size ≤ p' := by
    rcases B'.it p' rfl with e | e
    · left; simpa [Value.ownBlock, eq_comm] using e
    · right
      have : ((w11.drewN nq).alloc (.cells #[(.slice (some ⟨g, 0, none⟩) ns.length cg)] 23)).heap.size = w11.heap.size + 1 := by simp
      have e2 : ((w11.drewN nq).alloc (.cells #[(.slice (some ⟨g, 0, none⟩) ns.length cg)] 23)).heap.size ≤ p' := e
      omega
  have hB : w.heap.size ≤ w'.heap.size := Nat.le_trans (by omega) KK.size
  have hln := HN.it
  have OA := fun b => ownN_at w1.heap.size w2.heap.size w3.heap.size w4.heap.size w5.heap.size w6.heap.size w9.heap.size b (by omega) (by omega) (by omega) (by omega) (by omega) (by omega)
  have t2 := (Q2.it.keeps KK (fun b hb e => by have h := P2.it b hb; omega))
  have t3 := (Q3.it.keeps KK (fun b hb e => by have h := P3.it b hb; omega))
  have t4 := (Q4.it.keeps KK (fun b hb e => by have h := P4.it b hb; omega))
  have t5 := (Q5.it.keeps KK (fun b hb e => by have h := P5.it b hb; omega))
  have t6 := (Q6.it.keeps KK (fun b hb e => by have h := P6.it b hb; omega))
  have tF := (QF.it.keeps KK (fun b hb e => by have h := PF.it b hb; omega))
  refine (apart6 w.heap.size w' (ownN w1.heap.size w2.heap.size w3.heap.size w4.heap.size w5.heap.size w6.heap.size w9.heap.size) p' cap' _ _ _ _ _ _ _ _ _ _ _ _ hB OUT ((OA p').2.2.2.2.2.2 (by omega)) hn' t2 t3 t4 t5 t6 tF (fun b hb => (OA b).1 (P2.it b hb)) (fun b hb => (OA b).2.1 (P3.it b hb)) (fun b hb => (OA b).2.2.1 (P4.it b hb)) (fun b hb => (OA b).2.2.2.1 (P5.it b hb)) (fun b hb => (OA b).2.2.2.2.1 (P6.it b hb)) (fun b hb => (OA b).2.2.2.2.2.1 (PF.it b hb)) (by show 4 ≤ 140737488355000; omega) (by show 4 ≤ 140737488355000; omega) (by show 2 ≤ 140737488355000; omega) (by show 2 ≤ 140737488355000; omega) (by show 4 ≤ 140737488355000; omega) (by omega)).mono ?_
  · clear OA t2 t3 t4 t5 t6 tF
    rintro e w13 ⟨rfl, K13⟩
    have B13 := Aside.mk ((N11.it.bB.trans (KK.below (by omega) (fun b e => by omega))).trans K13)
    clear K13 KK hsz OUT hp' hB hln O' K' B' hb' hg' hn' hm' hs' ht'
    go_wp2_with fail
    go_ret
    exact ⟨rfl, B13.it⟩
theorem numOwn_walk {A : Nat → Addr} (v : Int) (d : Value) (ns : List Int) (w : World) (hs : Sents 59 codeVars A w) (hv0 : 0 ≤ v) (hv1 : v ≤ 4294967295) (hz : BytesArg w d ns) :
    Calls Tryd.prog 3 #[.int .u32 v, d] w fun e w' => e = .returned (.bool true) ∧ Below w.heap.size w w' :=
  numOwn_law v d ns w hs hv0 hv1 hz.1 hz.2.1 hz.2.2
end Go.Proofs.YtakjofpidlijnaaDoor

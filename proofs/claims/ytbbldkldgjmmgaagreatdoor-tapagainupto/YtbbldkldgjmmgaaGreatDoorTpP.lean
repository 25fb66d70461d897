/-
  layer 26 in bytes: texts of byte lists, parts, words of a header, lines. Of whatever program.
-/
import Derived.Test.YtbbldkldgjmmgaaGreatDoorTxt
import Derived.Lib.ParseIntB
import Derived.Lib.Bytealg
import Derived.Lib.LastIndexByte
namespace Go.Proofs.YtbbldkldgjmmgaaGreatDoor.Tp
open Go.Lib

def plainU (c : Nat) : Bool := decide (32 < c) && decide (c ≤ 126) && !decide (c = 37)
def hexN (n : Nat) : Nat := if n < 10 then 48 + n else 87 + n
def tellU (c : Nat) : List Nat := if plainU c then [c] else [37, hexN (c / 16), hexN (c % 16)]
def flatU (b : List Nat) : List Nat := b.flatMap tellU
def toldU (b : List Nat) : List Nat := if b = [] then [37] else flatU b
def un (b : List Nat) : List UInt8 := b.map UInt8.ofNat
theorem hexN_lt {n : Nat} (h : n < 16) : 48 ≤ hexN n ∧ hexN n ≤ 102 := by unfold hexN; split <;> omega
theorem tell_nb {c : Nat} (h : c < 256) : ∀ x ∈ tellU c, 32 < x ∧ x < 127 := by
  intro x hx
  unfold tellU at hx
  split at hx
  · rename_i hp
    simp only [List.mem_singleton] at hx
    subst hx
    simp [plainU] at hp
    omega
  · simp only [List.mem_cons, List.not_mem_nil, or_false] at hx
    rcases hx with rfl | rfl | rfl
    · omega
    · have := hexN_lt (n := c / 16) (by omega); omega
    · have := hexN_lt (n := c % 16) (by omega); omega
theorem flat_nb {b : List Nat} (h : ∀ c ∈ b, c < 256) : ∀ x ∈ flatU b, 32 < x ∧ x < 127 := by
  intro x hx
  obtain ⟨c, hc, hx⟩ := List.mem_flatMap.1 hx
  exact tell_nb (h c hc) x hx
theorem told_nb {b : List Nat} (h : ∀ c ∈ b, c < 256) : ∀ x ∈ toldU b, 32 < x ∧ x < 127 := by
  intro x hx
  unfold toldU at hx
  split at hx
  · simp only [List.mem_singleton] at hx; omega
  · exact flat_nb h x hx
theorem told_ne (b : List Nat) : toldU b ≠ [] := by
  unfold toldU
  split
  · simp
  · cases b with
    | nil => contradiction
    | cons c b => unfold flatU tellU; rw [List.flatMap_cons]; split <;> simp
theorem tell_len (c : Nat) : 1 ≤ (tellU c).length ∧ (tellU c).length ≤ 3 := by unfold tellU; split <;> simp
theorem flat_len (b : List Nat) : b.length ≤ (flatU b).length ∧ (flatU b).length ≤ 3 * b.length := by
  induction b with
  | nil => simp [flatU]
  | cons c b ih =>
    have := tell_len c
    unfold flatU at ih ⊢
    rw [List.flatMap_cons, List.length_append, List.length_cons]
    omega
theorem told_len (b : List Nat) : (toldU b).length ≤ 3 * b.length + 1 := by
  unfold toldU
  split
  · simp
  · have := flat_len b; omega
theorem un_len (b : List Nat) : (un b).length = b.length := by simp [un]
theorem un_app (a b : List Nat) : un (a ++ b) = un a ++ un b := by simp [un]
theorem un_mem {b : List Nat} {P : Nat → Prop} (h : ∀ x ∈ b, P x) (hb : ∀ x, P x → x < 256) : ∀ y ∈ un b, P y.toNat := by
  intro y hy
  obtain ⟨x, hx, rfl⟩ := List.mem_map.1 hy
  have := hb x (h x hx)
  rw [UInt8.toNat_ofNat', Nat.mod_eq_of_lt (by omega)]
  exact h x hx

/-- parts between the signs c -/
def consU (p : List UInt8) : List (List UInt8) → List (List UInt8)
  | [] => [p]
  | x :: q => (p ++ x) :: q
def spU (c : UInt8) : List UInt8 → List (List UInt8)
  | [] => [[]]
  | x :: r => if x == c then [] :: spU c r else consU [x] (spU c r)
theorem spU_ne (c : UInt8) (s : List UInt8) : spU c s ≠ [] := by
  cases s with
  | nil => simp [spU]
  | cons x r =>
    unfold spU
    split
    · simp
    · cases spU c r <;> simp [consU]
theorem spU_none {c : UInt8} : ∀ {s : List UInt8}, c ∉ s → spU c s = [s]
  | [], _ => rfl
  | x :: r, h => by
    have hx : (x == c) = false := by rw [beq_eq_false_iff_ne]; intro e; exact h (by simp [e])
    unfold spU
    rw [hx, spU_none (fun hm => h (by simp [hm]))]
    simp [consU]
theorem spU_cons {c : UInt8} : ∀ {p r : List UInt8}, c ∉ p → spU c (p ++ c :: r) = p :: spU c r
  | [], r, _ => by simp [spU]
  | x :: p, r, h => by
    have hx : (x == c) = false := by rw [beq_eq_false_iff_ne]; intro e; exact h (by simp [e])
    rw [List.cons_append]
    show (if x == c then [] :: spU c (p ++ c :: r) else consU [x] (spU c (p ++ c :: r))) = _
    rw [hx, spU_cons (fun hm => h (by simp [hm]))]
    simp [consU]
theorem idx_none {c : UInt8} : ∀ {s : List UInt8}, indexByte s c = -1 → c ∉ s
  | [], _ => by simp
  | x :: r, h => by
    unfold indexByte at h
    split at h
    · cases h
    · rename_i hx
      split at h
      · rename_i h1
        rw [beq_iff_eq] at h1
        intro hm
        rcases List.mem_cons.1 hm with e | e
        · exact hx (by rw [e]; simp)
        · exact idx_none h1 e
      · have := indexByte_ge r c; omega
theorem idx_some {c : UInt8} : ∀ {s : List UInt8} {i : Nat}, indexByte s c = i → i < s.length ∧ c ∉ s.take i ∧ s = s.take i ++ c :: s.drop (i + 1)
  | [], i, h => by simp [indexByte] at h
  | x :: r, i, h => by
    unfold indexByte at h
    split at h
    · rename_i hx
      have : i = 0 := by omega
      subst this
      rw [beq_iff_eq] at hx
      subst hx
      simp
    · rename_i hx
      split at h
      · omega
      · rename_i h1
        have hg := indexByte_ge r c
        have hn : indexByte r c ≠ -1 := fun e => h1 (by rw [e]; rfl)
        obtain ⟨k, hk⟩ : ∃ k : Nat, indexByte r c = k := ⟨(indexByte r c).toNat, by omega⟩
        have : i = k + 1 := by omega
        subst this
        obtain ⟨a, b, d⟩ := idx_some hk
        refine ⟨by simp; omega, ?_, ?_⟩
        · rw [List.take_succ_cons]
          intro hm
          rcases List.mem_cons.1 hm with e | e
          · exact hx (by rw [e]; simp)
          · exact b e
        · rw [List.take_succ_cons, List.drop_succ_cons, List.cons_append, ← d]
theorem spU_idx {c : UInt8} {s : List UInt8} {i : Nat} (h : indexByte s c = i) : spU c s = s.take i :: spU c (s.drop (i + 1)) := by
  obtain ⟨_, b, d⟩ := idx_some h
  conv => lhs; rw [d]
  exact spU_cons b
theorem spU_tl {c : UInt8} (hc : c = 32) : ∀ (p : List UInt8) (ws : List (List UInt8)), c ∉ p → (∀ x ∈ ws, c ∉ x) → spU c (p ++ Wd.tl ws) = p :: ws
  | p, [], hp, _ => by simp [Wd.tl, spU_none hp]
  | p, x :: ws, hp, h => by
    have e : Wd.tl (x :: ws) = c :: (x ++ Wd.tl ws) := by subst hc; simp [Wd.tl]
    rw [e, spU_cons hp, spU_tl hc x ws (h x (by simp)) (fun y hy => h y (by simp [hy]))]
theorem spU_jn {x : List UInt8} {ws : List (List UInt8)} (h : ∀ y ∈ x :: ws, (32 : UInt8) ∉ y) : spU 32 (Wd.jn (x :: ws)) = x :: ws := spU_tl rfl x ws (h x (by simp)) (fun y hy => h y (by simp [hy]))

theorem spU_len {c : UInt8} : ∀ {s x : List UInt8}, x ∈ spU c s → x.length ≤ s.length
  | [], x, h => by simp [spU] at h; simp [h]
  | y :: r, x, h => by
    unfold spU at h
    split at h
    · rcases List.mem_cons.1 h with rfl | h
      · simp
      · have := spU_len h; simp; omega
    · cases hq : spU c r with
      | nil => exact absurd hq (spU_ne c r)
      | cons p q =>
        rw [hq] at h
        simp only [consU, List.mem_cons] at h
        rcases h with rfl | h
        · have := spU_len (c := c) (s := r) (x := p) (by rw [hq]; simp)
          simp; omega
        · have := spU_len (c := c) (s := r) (x := x) (by rw [hq]; simp [h])
          simp; omega
/-- a decimal numeral that fits is read -/
theorem parseM_dd (M u : Nat) (hM : M ≤ 18446744073709551615) (hu : u ≤ M) (r : List UInt8) : parseUintM M 0 (decDigits u ++ r) = parseUintM M u r := by
  induction u using Nat.strongRecOn generalizing r with
  | ind u ih =>
    by_cases h : u < 10
    · rw [decDigits, dif_pos h, List.singleton_append]
      have e : (UInt8.ofNat (48 + u)).toNat = 48 + u := by rw [UInt8.toNat_ofNat']; omega
      rw [parseUintM, e, if_pos (by omega), if_neg (by omega), if_neg (by omega)]
      congr 1
      omega
    · rw [decDigits, dif_neg h, List.append_assoc, ih (u / 10) (by omega) (by omega), List.singleton_append]
      have e : (UInt8.ofNat (48 + u % 10)).toNat = 48 + u % 10 := by rw [UInt8.toNat_ofNat']; omega
      rw [parseUintM, e, if_pos (by omega), if_neg (by omega), if_neg (by omega)]
      congr 1
      omega
theorem parseB_dd (B u : Nat) (hB : 2 ^ B - 1 ≤ 18446744073709551615) (hu : u ≤ 2 ^ B - 1) : parseUintB B (decDigits u) = .ok u := by
  unfold parseUintB
  rw [if_neg (Wd.dd_ne_nil u)]
  have := parseM_dd (2 ^ B - 1) u hB hu []
  rw [List.append_nil] at this
  rw [this]
  rfl

/-- what package tap guesses of a header's words -/
structure Hd where
  v : Nat
  t : Nat
  f : Nat
  s : Nat
  l : Nat
abbrev kTy : List UInt8 := [116, 121, 112, 101]
abbrev kVe : List UInt8 := [118, 101, 114, 115, 105, 111, 110]
abbrev kFl : List UInt8 := [102, 108, 97, 103, 115]
abbrev kSt : List UInt8 := [115, 116, 114, 101, 97, 109]
abbrev kLe : List UInt8 := [108, 101, 110, 103, 116, 104]
def tyU (w : List UInt8) : Nat := if w = [119, 105, 110, 100, 111, 119] then 1 else if w = [112, 105, 110, 103] then 2 else if w = [97, 119, 97, 121] then 3 else 0
def flU (w : List UInt8) : Nat := if w = [115, 121, 110] then 1 else if w = [97, 99, 107] then 2 else if w = [102, 105, 110] then 4 else if w = [114, 115, 116] then 8 else 0
def numU (B : Nat) (w : List UInt8) : Option Nat := match parseUintB B w with
  | .ok u => some u
  | _ => none
theorem numU_dd (B u : Nat) (hB : 2 ^ B - 1 ≤ 18446744073709551615) (hu : u ≤ 2 ^ B - 1) : numU B (decDigits u) = some u := by unfold numU; rw [parseB_dd B u hB hu]
theorem numU_ok {B u : Nat} {w : List UInt8} (h : numU B w = some u) : parseUintB B w = .ok u := by
  unfold numU at h
  split at h
  · rename_i e; injection h with h; rw [e, h]
  · cases h
def gStep (a : List UInt8) (h : Hd) (w : List UInt8) : Option Hd :=
  if a = kTy then (numU 8 w).map fun u => { h with t := u }
  else if a = kVe then (numU 8 w).map fun u => { h with v := u }
  else if a = kFl then (numU 16 w).map fun u => { h with f := h.f ||| u }
  else if a = kSt then (numU 32 w).map fun u => { h with s := u }
  else if a = kLe then (numU 32 w).map fun u => { h with l := u }
  else some { h with t := h.t ||| tyU w, f := h.f ||| flU w }
def gRun : List UInt8 → Hd → List (List UInt8) → Option Hd
  | _, h, [] => some h
  | a, h, w :: ws => (gStep a h w).bind fun h' => gRun w h' ws
def lowF (a b c d : Bool) : Nat := (if a then 1 else 0) + (if b then 2 else 0) + (if c then 4 else 0) + (if d then 8 else 0)
theorem gRun_plain {a w : List UInt8} {h : Hd} {ws : List (List UInt8)} (h1 : a ≠ kTy) (h2 : a ≠ kVe) (h3 : a ≠ kFl) (h4 : a ≠ kSt) (h5 : a ≠ kLe) : gRun a h (w :: ws) = gRun w { h with t := h.t ||| tyU w, f := h.f ||| flU w } ws := by
  rw [gRun, gStep, if_neg h1, if_neg h2, if_neg h3, if_neg h4, if_neg h5]
  rfl
/-- a word that is none of the five -/
def Pl (a : List UInt8) : Prop := a ≠ kTy ∧ a ≠ kVe ∧ a ≠ kFl ∧ a ≠ kSt ∧ a ≠ kLe
theorem Pl.run {a w : List UInt8} {h : Hd} {ws : List (List UInt8)} (p : Pl a) : gRun a h (w :: ws) = gRun w { h with t := h.t ||| tyU w, f := h.f ||| flU w } ws := gRun_plain p.1 p.2.1 p.2.2.1 p.2.2.2.1 p.2.2.2.2
theorem dd_head {n : Nat} {c : UInt8} {r : List UInt8} (hc : 57 < c.toNat) : decDigits n ≠ c :: r := Wd.dd_word hc
theorem pl_dd (n : Nat) : Pl (decDigits n) := ⟨dd_head (by decide), dd_head (by decide), dd_head (by decide), dd_head (by decide), dd_head (by decide)⟩
theorem pl_nil : Pl [] := by unfold Pl; decide
theorem or0 (n : Nat) : n ||| 0 = n := Nat.or_zero n
theorem run_kw {a k : List UInt8} {h : Hd} {ws : List (List UInt8)} (p : Pl a) (h1 : tyU k = 0) (h2 : flU k = 0) : gRun a h (k :: ws) = gRun k h ws := by
  rw [p.run, h1, h2, or0, or0]
theorem run_ty {a : List UInt8} (p : Pl a) (h : Hd) (t : Nat) (ht : t ≤ 255) (h0 : h.t = 0) (ws : List (List UInt8)) : ∃ b, Pl b ∧ gRun a h (Wd.ty t ++ ws) = gRun b { h with t := t } ws := by
  unfold Wd.ty
  split
  · rename_i h4
    rw [List.singleton_append, p.run, h0, Nat.zero_or]
    have : t = 0 ∨ t = 1 ∨ t = 2 ∨ t = 3 := by omega
    rcases this with rfl | rfl | rfl | rfl
    · refine ⟨[100, 97, 116, 97], by unfold Pl; decide, ?_⟩
      rw [show Wd.wT.getD 0 [] = [100, 97, 116, 97] from rfl, show flU [100, 97, 116, 97] = 0 by decide, or0]
      rfl
    · refine ⟨[119, 105, 110, 100, 111, 119], by unfold Pl; decide, ?_⟩
      rw [show Wd.wT.getD 1 [] = [119, 105, 110, 100, 111, 119] from rfl, show flU [119, 105, 110, 100, 111, 119] = 0 by decide, or0]
      rfl
    · refine ⟨[112, 105, 110, 103], by unfold Pl; decide, ?_⟩
      rw [show Wd.wT.getD 2 [] = [112, 105, 110, 103] from rfl, show flU [112, 105, 110, 103] = 0 by decide, or0]
      rfl
    · refine ⟨[97, 119, 97, 121], by unfold Pl; decide, ?_⟩
      rw [show Wd.wT.getD 3 [] = [97, 119, 97, 121] from rfl, show flU [97, 119, 97, 121] = 0 by decide, or0]
      rfl
  · refine ⟨_, pl_dd t, ?_⟩
    show gRun a h (kTy :: decDigits t :: ws) = _
    rw [run_kw p (by decide) (by decide), gRun, gStep, if_pos rfl, numU_dd 8 t (by decide) (by omega)]
    rfl
theorem run_ver {a : List UInt8} (p : Pl a) (h : Hd) (v : Nat) (hv : v ≤ 255) (h0 : h.v = 0) (ws : List (List UInt8)) : ∃ b, Pl b ∧ gRun a h (Wd.ver v ++ ws) = gRun b { h with v := v } ws := by
  unfold Wd.ver
  split
  · rename_i e
    subst e
    exact ⟨a, p, by rw [List.nil_append]; cases h; simp only at h0; subst h0; rfl⟩
  · refine ⟨_, pl_dd v, ?_⟩
    show gRun a h (kVe :: decDigits v :: ws) = _
    rw [run_kw p (by decide) (by decide), gRun, gStep, if_neg (by decide), if_pos rfl, numU_dd 8 v (by decide) (by omega)]
    rfl
theorem run_fl {a k : List UInt8} (p : Pl a) (pk : Pl k) (hk : tyU k = 0) (h : Hd) (b : Bool) (ws : List (List UInt8)) : ∃ c, Pl c ∧ gRun a h (Wd.fl b k ++ ws) = gRun c { h with f := h.f ||| (if b then flU k else 0) } ws := by
  unfold Wd.fl
  cases b with
  | false => exact ⟨a, p, by rw [if_neg (by decide), if_neg (by decide), List.nil_append, or0]⟩
  | true => exact ⟨k, pk, by rw [if_pos rfl, if_pos rfl, List.singleton_append, p.run, hk, or0]⟩
theorem run_fur {a : List UInt8} (p : Pl a) (h : Hd) (n : Nat) (hn : n ≤ 65535) (ws : List (List UInt8)) : ∃ b, Pl b ∧ gRun a h (Wd.fur n ++ ws) = gRun b { h with f := h.f ||| n } ws := by
  unfold Wd.fur
  split
  · rename_i e
    subst e
    exact ⟨a, p, by rw [List.nil_append, or0]⟩
  · refine ⟨_, pl_dd n, ?_⟩
    show gRun a h (kFl :: decDigits n :: ws) = _
    rw [run_kw p (by decide) (by decide), gRun, gStep, if_neg (by decide), if_neg (by decide), if_pos rfl, numU_dd 16 n (by decide) (by omega)]
    rfl
theorem run_fin {a : List UInt8} (p : Pl a) (h : Hd) (s l : Nat) (hs : s ≤ 4294967295) (hl : l ≤ 4294967295) : gRun a h (Wd.fin s l) = some { h with s := s, l := l } := by
  unfold Wd.fin
  rw [run_kw p (by decide) (by decide), gRun, gStep, if_neg (by decide), if_neg (by decide), if_neg (by decide), if_pos rfl, numU_dd 32 s (by decide) (by omega)]
  show gRun (decDigits s) { h with s := s } (kLe :: [decDigits l]) = _
  rw [run_kw (pl_dd s) (by decide) (by decide), gRun, gStep, if_neg (by decide), if_neg (by decide), if_neg (by decide), if_neg (by decide), if_pos rfl, numU_dd 32 l (by decide) (by omega)]
  rfl
theorem or_low (a b c d : Bool) : ((((0 ||| (if a then 1 else 0)) ||| (if b then 2 else 0)) ||| (if c then 4 else 0)) ||| (if d then 8 else 0) : Nat) = lowF a b c d := by cases a <;> cases b <;> cases c <;> cases d <;> rfl
/-- the words of a header, guessed -/
theorem gRun_words (t v : Nat) (a b c d : Bool) (hi s l : Nat) (ht : t ≤ 255) (hv : v ≤ 255) (hh : hi ≤ 65535) (hs : s ≤ 4294967295) (hl : l ≤ 4294967295) : gRun [] ⟨0, 0, 0, 0, 0⟩ (Wd.words t v a b c d hi s l) = some ⟨v, t, lowF a b c d ||| hi, s, l⟩ := by
  unfold Wd.words
  obtain ⟨b1, p1, e1⟩ := run_ty pl_nil ⟨0, 0, 0, 0, 0⟩ t ht rfl (Wd.ver v ++ ((Wd.fls a b c d ++ Wd.fur hi) ++ Wd.fin s l))
  obtain ⟨b2, p2, e2⟩ := run_ver p1 ⟨0, t, 0, 0, 0⟩ v hv rfl ((Wd.fls a b c d ++ Wd.fur hi) ++ Wd.fin s l)
  rw [e1, e2]
  unfold Wd.fls
  simp only [List.append_assoc]
  obtain ⟨c1, q1, x1⟩ := run_fl (k := [115, 121, 110]) p2 (by unfold Pl; decide) (by decide) ⟨v, t, 0, 0, 0⟩ a (Wd.fl b [97, 99, 107] ++ (Wd.fl c [102, 105, 110] ++ (Wd.fl d [114, 115, 116] ++ (Wd.fur hi ++ Wd.fin s l))))
  obtain ⟨c2, q2, x2⟩ := run_fl (k := [97, 99, 107]) q1 (by unfold Pl; decide) (by decide) ⟨v, t, 0 ||| (if a then 1 else 0), 0, 0⟩ b (Wd.fl c [102, 105, 110] ++ (Wd.fl d [114, 115, 116] ++ (Wd.fur hi ++ Wd.fin s l)))
  obtain ⟨c3, q3, x3⟩ := run_fl (k := [102, 105, 110]) q2 (by unfold Pl; decide) (by decide) ⟨v, t, (0 ||| (if a then 1 else 0)) ||| (if b then 2 else 0), 0, 0⟩ c (Wd.fl d [114, 115, 116] ++ (Wd.fur hi ++ Wd.fin s l))
  obtain ⟨c4, q4, x4⟩ := run_fl (k := [114, 115, 116]) q3 (by unfold Pl; decide) (by decide) ⟨v, t, ((0 ||| (if a then 1 else 0)) ||| (if b then 2 else 0)) ||| (if c then 4 else 0), 0, 0⟩ d (Wd.fur hi ++ Wd.fin s l)
  obtain ⟨c5, q5, x5⟩ := run_fur q4 ⟨v, t, lowF a b c d, 0, 0⟩ hi hh (Wd.fin s l)
  have y1 : flU [115, 121, 110] = 1 := by decide
  have y2 : flU [97, 99, 107] = 2 := by decide
  have y3 : flU [102, 105, 110] = 4 := by decide
  have y4 : flU [114, 115, 116] = 8 := by decide
  rw [y1] at x1
  rw [y2] at x2
  rw [y3] at x3
  rw [y4] at x4
  rw [x1, x2, x3, x4]
  simp only [or_low]
  rw [x5, run_fin q5 _ s l hs hl]
theorem lowF_or (f : Nat) (a b c d : Bool) (ha : a = (f &&& 1 != 0)) (hb : b = (f &&& 2 != 0)) (hc : c = (f &&& 4 != 0)) (hd : d = (f &&& 8 != 0)) : lowF a b c d ||| (f / 16 * 16) = f := by
  have h1 : lowF a b c d = f % 16 := by
    have k : ∀ m : Fin 16, lowF (m.1 &&& 1 != 0) (m.1 &&& 2 != 0) (m.1 &&& 4 != 0) (m.1 &&& 8 != 0) = m.1 := by decide
    have e : ∀ j, j < 16 → f &&& j = (f % 16) &&& j := fun j hj => by
      have e16 : f % 16 = f &&& 15 := (Nat.and_two_pow_sub_one_eq_mod f 4).symm
      rw [e16, Nat.and_assoc]
      congr 1
      have : ∀ q : Fin 16, q.1 = 15 &&& q.1 := by decide
      exact this ⟨j, hj⟩
    subst ha hb hc hd
    rw [e 1 (by decide), e 2 (by decide), e 4 (by decide), e 8 (by decide)]
    exact k ⟨f % 16, Nat.mod_lt _ (by decide)⟩
  rw [h1]
  have := Nat.two_pow_add_eq_or_of_lt (i := 4) (b := f % 16) (Nat.mod_lt _ (by decide)) (f / 16)
  rw [Nat.or_comm, show f / 16 * 16 = 2 ^ 4 * (f / 16) by omega, ← this]
  omega
end Go.Proofs.YtbbldkldgjmmgaaGreatDoor.Tp

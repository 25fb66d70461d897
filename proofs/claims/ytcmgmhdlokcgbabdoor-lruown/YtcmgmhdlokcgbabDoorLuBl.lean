/-
  LruBlind
-/
import Derived.Test.YtcmgmhdlokcgbabDoorLuN
import Derived.Test.YtcmgmhdlokcgbabDoorOpenI
namespace Go.Proofs.YtcmgmhdlokcgbabDoor
open Go.RowKit Lulnn

variable {w w' w0 W : World} {own own' : Nat → Nat} {i c o j ca cb b q n : Nat} {room k now : Int} {L M La Lb : List Rx} {I : Nat → Prop} {A : Nat → Addr} {x y : Rx} {z : Oz} {v va vb : Value} {ks ms : List Int}

/-- two caches that hold the same, by owners 1, 2 -/
structure Bw (A : Nat → Addr) (w : World) (own : Nat → Nat) (W : World) (ca cb : Nat) (room : Int) (La Lb : List Rx) : Prop where
  og : OnG A w own W
  a : CaO own 1 W ca room La
  b : CaO own 2 W cb room Lb
theorem Bw.sn (h : Bw A w own W ca cb room La Lb) (s : Sn I own W own' w') (h0 : ¬ I 0) (h1 : ¬ I 1) (h2 : ¬ I 2) : Bw A w own' w' ca cb room La Lb := ⟨h.og.sn s h0, h.a.sn s h1, h.b.sn s h2⟩
theorem Bw.quiet (h : Bw A w own W ca cb room La Lb) (hk : Keeps Nowhere W w') : Bw A w own w' ca cb room La Lb := h.sn (I := fun _ => False) (Sn.same hk) (fun x => x) (fun x => x) (fun x => x)
theorem bw1 (h : Aside (Bw A w own W ca cb room La Lb)) (hz : z.Ok) (hm : La.length * 8 ≤ 140737488355328) : Calls Tryd.prog 7 #[ptr ca, z.agg] W fun e w' => e = .returned (.tuple #[]) ∧ ∃ own', Aside (Bw A w own' w' ca cb room (actL room La z) Lb) ∧ Aside (Sn (fun x => x = 1) own W own' w') := by
  refine (act_ h.it.a h.it.og.sents hz hm).mono ?_
  rintro e w' ⟨own', rfl, J, S⟩
  exact ⟨rfl, own', ⟨h.it.og.sn S.it (by decide), J.it, h.it.b.sn S.it (by decide)⟩, S⟩
theorem bw2 (h : Aside (Bw A w own W ca cb room La Lb)) (hz : z.Ok) (hm : Lb.length * 8 ≤ 140737488355328) : Calls Tryd.prog 7 #[ptr cb, z.agg] W fun e w' => e = .returned (.tuple #[]) ∧ ∃ own', Aside (Bw A w own' w' ca cb room La (actL room Lb z)) ∧ Aside (Sn (fun x => x = 2) own W own' w') := by
  refine (act_ h.it.b h.it.og.sents hz hm).mono ?_
  rintro e w' ⟨own', rfl, J, S⟩
  exact ⟨rfl, own', ⟨h.it.og.sn S.it (by decide), h.it.a.sn S.it (by decide), J.it⟩, S⟩
/-- what a Put lets go, as numbers -/
def gonN (room : Int) (L : List Rx) (z : Oz) : List Int := if mayP room z.w = true then keyL (goneX room L z.rx) else []
def codN (room : Int) (z : Oz) : Int := if z.w < 0 then 2 else if room < z.w then 6 else 0
theorem goneX_sub (room : Int) (L : List Rx) (x : Rx) : ∀ y ∈ goneX room L x, y ∈ L := by
  intro y hy
  unfold goneX at hy
  exact dropL_sub.subset (List.mem_of_mem_drop (List.mem_reverse.1 hy))
/-- a Put, in numbers -/
theorem put_i (h : CaO own i w c room L) (hs : Sents 81 codeVars A w) (hz : z.Ok) (hmax : L.length * 8 ≤ 140737488355328) (o : Nat) :
    Calls Tryd.prog 11 #[ptr c, .int .i64 z.k, .int .i64 z.v, .int .i64 z.w, .int .i64 z.u] w fun e w' => ∃ qa qc ev own', e = .returned (.tuple #[.slice qa (gonN room L z).length qc, ev]) ∧ Hid (Coded A ev (codN room z)) ∧ Aside (CaO own' i w' c room (putB room L z)) ∧ Aside (OwR own' o w' 3 1 (.slice qa (gonN room L z).length qc) (gonN room L z).length (iv (gonN room L z)) ∧ ∀ y ∈ gonN room L z, I6 y) ∧ Aside (Sn (fun k => k = i) own w own' w') := by
  refine (put_any h hs hz hmax o).mono ?_
  rintro e w' ⟨qa, qn, qc, ev, own', rfl, J, C, R, S⟩
  have hb : ∀ y ∈ gonN room L z, I6 y := by
    unfold gonN
    split
    · intro y hy
      obtain ⟨x, hx, e⟩ := List.mem_map.1 hy
      rw [← e]
      exact (h.lok.ok x (goneX_sub _ _ _ x hx)).k
    · intro y hy; simp at hy
  have R' : OwR own' o w' 3 1 (.slice qa qn qc) (gonN room L z).length (iv (gonN room L z)) := by
    have r := R.it
    unfold gonN
    split
    · rename_i hm
      rw [if_pos hm] at r
      rw [rk_iv] at r
      rw [keyL_len]
      exact r
    · rename_i hm
      rw [if_neg hm] at r
      exact r
  have hq : qn = (gonN room L z).length := by
    rcases R'.1.2 with ⟨e, h0⟩ | ⟨g, cap, cur, e, _⟩
    · injection e with _ e _; omega
    · injection e
  subst hq
  exact ⟨qa, qc, ev, own', rfl, C.it, J, ⟨R', hb⟩, S⟩
theorem OwR.rdI (h : OwR own o w 3 1 v ks.length (iv ks)) (hb : ∀ y ∈ ks, I6 y) : RdI w v ks := owns_rdI h.1 hb
end Go.Proofs.YtcmgmhdlokcgbabDoor

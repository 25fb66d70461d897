/-
  package trace: records and a history in memory, by its owner
-/
import Derived.Test.YtambdgcogldbgaaDoorTrM
import Derived.Test.YtambdgcogldbgaaDoorRowBO
import Derived.Test.YtambdgcogldbgaaDoorRdOw
import Derived.Test.YtambdgcogldbgaaDoorMkB
import Derived.Test.YtambdgcogldbgaaDoorCodedZ
import Derived.Test.YtambdgcogldbgaaDoorKeQ
import Derived.Handy
import Derived.BigQuiet
import Derived.Lib.LaidTab
import Derived.Lib.ItoaNum
namespace Go.Proofs.YtambdgcogldbgaaDoor
open Go.RowKit Go.Maps

def PowT (w : World) : Prop := Lib.TabIs Tryd.prog w "internal/strconv.uint64pow10" .u64 Lib.pow10Tab
/-- what is laid when a law begins -/
structure LdT (A : Nat → Addr) (w : World) : Prop where
  s : Sents 140 codeVars A w
  p : PowT w

abbrev rcel (r : Rc) (v : Value) (gone : Nat) : List Value := [.int .i64 ((r.wr.length : Nat) : Int), .int .i64 ((r.rd : Nat) : Int), .bool r.cl, .bool r.en, v, .int .i64 (gone : Nat)]
/-- a record in memory: its box b, its row v -/
def RecA (w : World) (b : Nat) (v : Value) (r : Rc) : Prop :=
  ∃ (ns : List Int) (gone : Nat), Cells w b 69 (rcel r v gone) ∧ w.ownsRow 0 5 1 v ns.length (bv ns) ∧ gone ≤ ns.length ∧ ns.drop gone = r.rest ∧ ns.length ≤ r.wr.length

variable {own own' : Nat → Nat} {i p T mb : Nat} {w w' : World} {L : Hs} {I : Nat → Prop} {k : Int} {b : Nat} {v : Value} {r : Rc} {F : Int → Option (Nat × Value)}

theorem RecA.lt (h : RecA w b v r) : b < w.heap.size := by obtain ⟨ns, g, hc, _⟩ := h; exact hc.lt
theorem RecA.rlt (h : RecA w b v r) {g : Nat} (hg : v.ownBlock = some g) : g < w.heap.size := by obtain ⟨ns, _, _, hr, _⟩ := h; exact owns_lt hr g hg
theorem RecA.later {S : Nat → Prop} (h : RecA w b v r) (hk : Keeps S w w') (hb : ¬ S b) (hv : ∀ g, v.ownBlock = some g → ¬ S g) : RecA w' b v r := by
  obtain ⟨ns, g, hc, hr, h1⟩ := h
  exact ⟨ns, g, hc.later hk hb, owns_later hr hk (fun x hx => hv x hx), h1⟩
/-- a history in memory: F tells each known key's box and row -/
structure TrI (w : World) (p mb : Nat) (L : Hs) (F : Int → Option (Nat × Value)) : Prop where
  pc : Cells w p 60 [.map (some mb)]
  dom : ∀ k, (F k).isSome = (tget L k).isSome
  m : MapT w mb L.length (fun k => (F k).map (·.1))
  r : ∀ k b v r, F k = some (b, v) → tget L k = some r → RecA w b v r
  ds : ∀ k k' b b' v v', F k = some (b, v) → F k' = some (b', v') → k ≠ k' → b ≠ b' ∧ ∀ g, v.ownBlock = some g → v'.ownBlock ≠ some g
theorem TrI.rcd (h : TrI w p mb L F) {x : Nat × Value} (e : F k = some x) : ∃ r, tget L k = some r ∧ RecA w x.1 x.2 r := by
  have hd := h.dom k
  rw [e] at hd
  cases hl : tget L k with
  | none => rw [hl] at hd; cases hd
  | some r => exact ⟨r, rfl, h.r k _ _ r e hl⟩
theorem TrI.unk (h : TrI w p mb L F) (e : tget L k = none) : F k = none := by
  have hd := h.dom k
  rw [e] at hd
  cases hf : F k with
  | none => rfl
  | some x => rw [hf] at hd; cases hd
theorem TrI.later {S : Nat → Prop} (h : TrI w p mb L F) (hk : Keeps S w w') (hp : ¬ S p) (hm : ¬ S mb) (hr : ∀ k b v, F k = some (b, v) → ¬ S b ∧ ∀ g, v.ownBlock = some g → ¬ S g) : TrI w' p mb L F :=
  ⟨h.pc.later hk hp, h.dom, h.m.later hk hm, fun k b v r e hl => (h.r k b v r e hl).later hk (hr k b v e).1 (hr k b v e).2, h.ds⟩
theorem cells_row_ne {w : World} {b : Nat} {t e : TypeId} {cs : List Value} {v : Value} {n : Nat} {xs : List Value} {base m : Nat} (hc : Cells w b t cs) (hr : w.ownsRow base e m v n xs) (ht : t ≠ e) : v.ownBlock ≠ some b := fun hb => by
  rcases hr.2 with ⟨rfl, _⟩ | ⟨g, cap, cur, rfl, _, hg, _⟩
  · cases hb
  · simp only [Value.ownBlock, Option.some.injEq] at hb
    subst hb
    unfold Cells at hc
    rw [hc] at hg
    injection hg with hg
    simp only [Obj.cells.injEq] at hg
    exact ht hg.2.1
theorem cells_map_ne {w : World} {b mb : Nat} {t : TypeId} {cs : List Value} {n : Nat} {G : Int → Option Nat} (hc : Cells w b t cs) (hm : MapT w mb n G) : mb ≠ b := fun e => by
  obtain ⟨es, clock, hmb⟩ := hm.isMap
  unfold Cells at hc
  rw [← e, hmb] at hc
  cases hc
theorem row_map_ne {w : World} {mb : Nat} {e : TypeId} {v : Value} {n : Nat} {xs : List Value} {base m n' : Nat} {G : Int → Option Nat} (hr : w.ownsRow base e m v n xs) (hm : MapT w mb n' G) : v.ownBlock ≠ some mb := fun hb => by
  rcases hr.2 with ⟨rfl, _⟩ | ⟨g, cap, cur, rfl, _, hg, _⟩
  · cases hb
  · simp only [Value.ownBlock, Option.some.injEq] at hb
    subst hb
    obtain ⟨es, clock, hmb⟩ := hm.isMap
    rw [hmb] at hg
    cases hg
theorem hist_rec_ne {w : World} {b c : Nat} {xs ys : List Value} (h1 : Cells w b 60 xs) (h2 : Cells w c 69 ys) : b ≠ c := fun e => by
  subst e
  unfold Cells at h1 h2
  rw [h1] at h2
  injection h2 with h2
  simp only [Obj.cells.injEq] at h2
  exact absurd h2.2.1 (by decide)
/-- one key's record is new, or was changed -/
theorem TrI.put (h : TrI w p mb L F) (hu : (tk L).Pairwise (· < ·)) {w4 : World} {S : Nat → Prop} (hk : Keeps S w w4) (hS : ∀ x, S x → x = mb ∨ ∃ b0 v0, F k = some (b0, v0) ∧ (x = b0 ∨ v0.ownBlock = some x))
    (hr : RecA w4 b v r) (hb : (∃ v0, F k = some (b, v0)) ∨ (F k = none ∧ w.heap.size ≤ b)) (hv : ∀ g, v.ownBlock = some g → (∃ b0 v0, F k = some (b0, v0) ∧ v0.ownBlock = some g) ∨ w.heap.size ≤ g)
    (hm : MapT w4 mb (if (F k).isSome then L.length else L.length + 1) (setT (fun k => (F k).map (·.1)) k b)) : TrI w4 p mb (tset L k r) (fun z => if z = k then some (b, v) else F z) := by
  have hl := len_tset hu k r
  have hoth : ∀ z b' v' , F z = some (b', v') → z ≠ k → ¬ S b' ∧ ∀ g, v'.ownBlock = some g → ¬ S g := by
    intro z b' v' e hz
    obtain ⟨r', _, hr'⟩ := h.rcd e
    refine ⟨fun hs => ?_, fun g hg hs => ?_⟩
    · rcases hS _ hs with e1 | ⟨b0, v0, e0, e1⟩
      · obtain ⟨ns, gn, hc, _⟩ := hr'
        exact cells_map_ne hc h.m e1.symm
      · rcases e1 with e1 | e1
        · exact (h.ds z k _ _ _ _ e e0 hz).1 e1
        · obtain ⟨r0, _, hr0⟩ := h.rcd e0
          obtain ⟨ns, gn, hc, _⟩ := hr'
          obtain ⟨ns0, gn0, _, hr0, _⟩ := hr0
          exact cells_row_ne hc hr0 (by decide) e1
    · rcases hS _ hs with e1 | ⟨b0, v0, e0, e1⟩
      · obtain ⟨ns, gn, _, hr, _⟩ := hr'
        exact row_map_ne hr h.m (e1 ▸ hg)
      · rcases e1 with e1 | e1
        · obtain ⟨r0, _, hr0⟩ := h.rcd e0
          obtain ⟨ns, gn, _, hr, _⟩ := hr'
          obtain ⟨ns0, gn0, hc0, _⟩ := hr0
          exact cells_row_ne hc0 hr (by decide) (e1 ▸ hg)
        · exact (h.ds z k _ _ _ _ e e0 hz).2 g hg e1
  have hpS : ¬ S p := fun hs => by
    rcases hS _ hs with e1 | ⟨b0, v0, e0, e1⟩
    · exact cells_map_ne h.pc h.m e1.symm
    · obtain ⟨r0, _, hr0⟩ := h.rcd e0
      obtain ⟨ns0, gn0, hc0, hw0, _⟩ := hr0
      rcases e1 with e1 | e1
      · exact hist_rec_ne h.pc hc0 e1
      · exact cells_row_ne h.pc hw0 (by decide) e1
  refine ⟨h.pc.later hk hpS, fun z => ?_, ?_, fun z b' v' r' e hz => ?_, fun z z' b1 b2 v1 v2 e1 e2 hne => ?_⟩
  · rw [tget_tset]
    by_cases hz : z = k
    · simp [hz]
    · simp only [hz, if_false]; exact h.dom z
  · rw [hl, ← h.dom k]
    refine hm.eq (fun z _ => ?_)
    unfold setT
    by_cases hz : z = k
    · simp [hz]
    · simp only [hz, if_false]
  · rw [tget_tset] at hz
    by_cases hzk : z = k
    · simp only [hzk, if_true, Option.some.injEq, Prod.mk.injEq] at e hz
      obtain ⟨rfl, rfl⟩ := e
      subst hz
      exact hr
    · simp only [hzk, if_false] at e hz
      have := hoth z b' v' e hzk
      exact (h.r z b' v' r' e hz).later hk this.1 this.2
  · have new : ∀ z b' v', F z = some (b', v') → z ≠ k → b ≠ b' ∧ (∀ g, v.ownBlock = some g → v'.ownBlock ≠ some g) := by
      intro z b' v' e hz
      obtain ⟨r', _, hr'⟩ := h.rcd e
      refine ⟨fun eb => ?_, fun g hg hg' => ?_⟩
      · rcases hb with ⟨v0, e0⟩ | ⟨_, hb⟩
        · exact (h.ds k z _ _ _ _ e0 e (fun x => hz x.symm)).1 eb
        · have := hr'.lt; omega
      · rcases hv g hg with ⟨b0, v0, e0, e1⟩ | hlt
        · exact (h.ds k z _ _ _ _ e0 e (fun x => hz x.symm)).2 g e1 hg'
        · have := hr'.rlt hg'; omega
    by_cases hz : z = k
    · by_cases hz' : z' = k
      · exact absurd (hz.trans hz'.symm) hne
      · simp only [hz, if_true, Option.some.injEq, Prod.mk.injEq] at e1
        simp only [hz', if_false] at e2
        obtain ⟨rfl, rfl⟩ := e1
        exact new z' b2 v2 e2 hz'
    · by_cases hz' : z' = k
      · simp only [hz', if_true, Option.some.injEq, Prod.mk.injEq] at e2
        simp only [hz, if_false] at e1
        obtain ⟨rfl, rfl⟩ := e2
        have := new z b1 v1 e1 hz
        exact ⟨fun e => this.1 e.symm, fun g hg hg' => this.2 g hg' hg⟩
      · simp only [hz, if_false] at e1
        simp only [hz', if_false] at e2
        exact h.ds z z' _ _ _ _ e1 e2 hne
/-- a history: all its blocks are i's -/
structure TrO (own : Nat → Nat) (i : Nat) (w : World) (p T : Nat) (L : Hs) : Prop where
  it : ∃ mb F, TrI w p mb L F ∧ own p = i ∧ own mb = i ∧ ∀ k b v, F k = some (b, v) → own b = i ∧ ∀ g, v.ownBlock = some g → own g = i
  ok : TOk T L
  n : L.length ≤ 2147483648
theorem TrO.sn (h : TrO own i w p T L) (s : Sn I own w own' w') (hi : ¬ I i) : TrO own' i w' p T L := by
  obtain ⟨mb, F, h1, hp, hm, hb⟩ := h.it
  have ag : ∀ x, x < w.heap.size → own x = i → ¬ I (own x) ∧ own' x = i := fun x hx e => ⟨by rw [e]; exact hi, (s.agree x hx).trans e⟩
  refine ⟨⟨mb, F, h1.later s.keeps (ag p h1.pc.lt hp).1 (ag mb h1.m.lt hm).1 (fun k b v e => ?_), (ag p h1.pc.lt hp).2, (ag mb h1.m.lt hm).2, fun k b v e => ?_⟩, h.ok, h.n⟩
  · obtain ⟨r, _, hr⟩ := h1.rcd e
    exact ⟨(ag b hr.lt (hb k b v e).1).1, fun g hg => (ag g (hr.rlt hg) ((hb k b v e).2 g hg)).1⟩
  · obtain ⟨r, _, hr⟩ := h1.rcd e
    exact ⟨(ag b hr.lt (hb k b v e).1).2, fun g hg => (ag g (hr.rlt hg) ((hb k b v e).2 g hg)).2⟩
theorem TrO.quiet (h : TrO own i w p T L) (hk : Keeps Nowhere w w') : TrO own i w' p T L := h.sn (I := fun _ => False) (Sn.same hk) (fun x => x)
theorem TrO.mono {T' : Nat} (h : TrO own i w p T L) (hT : T ≤ T') : TrO own i w p T' L := ⟨h.it, h.ok.mono hT, h.n⟩
/-- one key's record is new, or was changed: by owners -/
theorem TrO.put {mb : Nat} {F : Int → Option (Nat × Value)} {T' : Nat} (h : TrI w p mb L F) (hp : own p = i) (hmb : own mb = i) (hob : ∀ k b v, F k = some (b, v) → own b = i ∧ ∀ g, v.ownBlock = some g → own g = i) (ok : TOk T L) (ok' : TOk T' (tset L k r)) (hn : L.length + 1 ≤ 2147483648) {w4 : World} {S : Nat → Prop} (hk : Keeps S w w4) (hS : ∀ x, S x → x = mb ∨ ∃ b0 v0, F k = some (b0, v0) ∧ (x = b0 ∨ v0.ownBlock = some x))
    (hr : RecA w4 b v r) (hb : (∃ v0, F k = some (b, v0)) ∨ (F k = none ∧ w.heap.size ≤ b)) (hv : ∀ g, v.ownBlock = some g → (∃ b0 v0, F k = some (b0, v0) ∧ v0.ownBlock = some g) ∨ w.heap.size ≤ g)
    (hm : MapT w4 mb (if (F k).isSome then L.length else L.length + 1) (setT (fun k => (F k).map (·.1)) k b)) : TrO (give own w.heap.size i) i w4 p T' (tset L k r) ∧ Sn (fun x => x = i) own w (give own w.heap.size i) w4 := by
  have h4 := h.put ok.up hk hS hr hb hv hm
  refine ⟨⟨⟨mb, _, h4, (give_old h.pc.lt).trans hp, (give_old h.m.lt).trans hmb, fun z b' v' e => ?_⟩, ok', ?_⟩, ⟨fun _ hx => give_old hx, hk.mono (fun x hx _ => ?_)⟩⟩
  · by_cases hz : z = k
    · simp only [hz, if_true, Option.some.injEq, Prod.mk.injEq] at e
      obtain ⟨rfl, rfl⟩ := e
      refine ⟨?_, fun g hg => ?_⟩
      · rcases hb with ⟨v0, e0⟩ | ⟨_, hb⟩
        · obtain ⟨r0, _, hr0⟩ := h.rcd e0
          exact (give_old hr0.lt).trans (hob _ _ _ e0).1
        · exact give_new hb
      · rcases hv g hg with ⟨b0, v0, e0, e1⟩ | hlt
        · obtain ⟨r0, _, hr0⟩ := h.rcd e0
          exact (give_old (hr0.rlt e1)).trans ((hob _ _ _ e0).2 g e1)
        · exact give_new hlt
    · simp only [hz, if_false] at e
      obtain ⟨r0, _, hr0⟩ := h.rcd e
      exact ⟨(give_old hr0.lt).trans (hob _ _ _ e).1, fun g hg => (give_old (hr0.rlt hg)).trans ((hob _ _ _ e).2 g hg)⟩
  · rw [len_tset ok.up]
    split <;> omega
  · rcases hS x hx with e | ⟨b0, v0, e0, e | e⟩
    · rw [e]; exact hmb
    · rw [e]; exact (hob _ _ _ e0).1
    · exact (hob _ _ _ e0).2 x e
end Go.Proofs.YtambdgcogldbgaaDoor

import PyProof.Rows.All
import Wide.All
import OpenK.AllK
import Wide.FinOn
import HandS.ForMost
import HandS.Wide
import HandS.WideBits
import HandS.Flow
import HandS.TupAny
import HandS.Strs
import HandS.SortInts
import HandS.IsInst
import HandS.Deep
import HandS.RaiseMore
import PySem.Challenge.RW_movingup_k03_paths_and_posts
set_option Elab.async false
set_option linter.all false
set_option maxRecDepth 100000
set_option maxHeartbeats 4000000
namespace MU
open PySem PySem.Spec L2
abbrev PD := PyData
/-! ## heaps that grow -/
theorem sqt_up {K : PySem.W.Frag} {H H' : Hp} {a : Addr} {xs : List V} (e : Same H H') (h : SqT K H a xs) : SqT K H' a xs := by
  rcases h with (h | ⟨o, h⟩) | h
  · exact .inl (.inl (e _ _ h))
  · exact .inl (.inr ⟨o, e _ _ h⟩)
  · exact .inr h
mutual
theorem dp_up {K : PySem.W.Frag} {H H' : Hp} (e : Same H H') : ∀ (d : PD) (v : V), Dp K H v d → Dp K H' v d
  | .none, _, h => by cases h; exact .non
  | .bool b, _, h => by cases h; exact .bl b
  | .int i, _, h => by cases h; exact .int i
  | .str x, _, h => by cases h; exact .str x
  | .list ds, _, h => by
    cases h with
    | lst hs ha => exact .lst (e.seq hs) (da_up e ds _ ha)
  | .tuple ds, _, h => by
    cases h with
    | tup hs ha => exact .tup (sqt_up e hs) (da_up e ds _ ha)
  | .dict _, _, h => by cases h
theorem da_up {K : PySem.W.Frag} {H H' : Hp} (e : Same H H') : ∀ (ds : List PD) (vs : List V), DpAll K H vs ds → DpAll K H' vs ds
  | [], _, h => by cases h; exact .nil
  | d :: ds, _, h => by
    cases h with
    | cons h1 h2 => exact .cons (dp_up e d _ h1) (da_up e ds _ h2)
end
theorem da_len {K : PySem.W.Frag} {H : Hp} : ∀ {vs : List V} {ds : List PD}, DpAll K H vs ds → vs.length = ds.length
  | _, _, .nil => rfl
  | _, _, .cons _ t => by rw [List.length_cons, List.length_cons, da_len t]
theorem da_get {K : PySem.W.Frag} {H : Hp} : ∀ {vs : List V} {ds : List PD} {i : Nat} {d : PD}, DpAll K H vs ds → ds[i]? = some d → ∃ v, vs[i]? = some v ∧ Dp K H v d
  | _, _, _, _, .nil, e => by simp at e
  | _, _, 0, _, .cons r _, e => ⟨_, rfl, Option.some.inj e ▸ r⟩
  | _, _, i + 1, _, .cons _ t, e => by
    obtain ⟨v, h1, h2⟩ := da_get (i := i) t (by simpa using e)
    exact ⟨v, by simpa using h1, h2⟩
theorem da_getV {K : PySem.W.Frag} {H : Hp} : ∀ {vs : List V} {ds : List PD} {i : Nat} {v : V}, DpAll K H vs ds → vs[i]? = some v → ∃ d, ds[i]? = some d ∧ Dp K H v d
  | _, _, _, _, .nil, e => by simp at e
  | _, _, 0, _, .cons r _, e => ⟨_, rfl, Option.some.inj e ▸ r⟩
  | _, _, i + 1, _, .cons _ t, e => by
    obtain ⟨v, h1, h2⟩ := da_getV (i := i) t (by simpa using e)
    exact ⟨v, by simpa using h1, h2⟩
theorem da_app {K : PySem.W.Frag} {H : Hp} : ∀ {vs ws : List V} {ds es : List PD}, DpAll K H vs ds → DpAll K H ws es → DpAll K H (vs ++ ws) (ds ++ es)
  | _, _, _, _, .nil, s => s
  | _, _, _, _, .cons r t, s => .cons r (da_app t s)
theorem da_set {K : PySem.W.Frag} {H : Hp} {v : V} {d : PD} (r : Dp K H v d) : ∀ {vs : List V} {ds : List PD} (i : Nat), DpAll K H vs ds → DpAll K H (vs.set i v) (ds.set i d)
  | _, _, _, .nil => .nil
  | _, _, 0, .cons _ t => .cons r t
  | _, _, i + 1, .cons q t => .cons q (da_set r i t)
theorem da_take {K : PySem.W.Frag} {H : Hp} : ∀ {vs : List V} {ds : List PD} (n : Nat), DpAll K H vs ds → DpAll K H (vs.take n) (ds.take n)
  | _, _, 0, _ => .nil
  | _, _, _ + 1, .nil => .nil
  | _, _, n + 1, .cons r t => .cons r (da_take n t)
theorem da_drop {K : PySem.W.Frag} {H : Hp} : ∀ {vs : List V} {ds : List PD} (n : Nat), DpAll K H vs ds → DpAll K H (vs.drop n) (ds.drop n)
  | _, _, 0, r => r
  | _, _, _ + 1, .nil => .nil
  | _, _, n + 1, .cons _ t => da_drop n t
theorem da_rev {K : PySem.W.Frag} {H : Hp} : ∀ {vs : List V} {ds : List PD}, DpAll K H vs ds → DpAll K H vs.reverse ds.reverse
  | _, _, .nil => .nil
  | _, _, .cons r t => by
    rw [List.reverse_cons, List.reverse_cons]
    exact da_app (da_rev t) (.cons r .nil)
theorem da_erase {K : PySem.W.Frag} {H : Hp} : ∀ {vs : List V} {ds : List PD} (i : Nat), DpAll K H vs ds → DpAll K H (vs.eraseIdx i) (ds.eraseIdx i)
  | _, _, _, .nil => .nil
  | _, _, 0, .cons _ t => t
  | _, _, i + 1, .cons q t => .cons q (da_erase i t)
/-- the value of a datum that lies in no heap -/
def scV : PD → Option V
  | .none => some .non
  | .bool b => some (.bl b)
  | .int i => some (.int i)
  | .str x => some (.str x)
  | _ => none
theorem dp_sc {K : PySem.W.Frag} {H H' : Hp} {v : V} {d : PD} (h : Dp K H v d) (s : (scV d).isSome = true) : Dp K H' v d := by
  cases h with
  | non => exact .non
  | bl b => exact .bl b
  | int i => exact .int i
  | str x => exact .str x
  | lst _ _ => cases s
  | tup _ _ => cases s
theorem da_sc {K : PySem.W.Frag} {H H' : Hp} : ∀ {vs : List V} {ds : List PD}, DpAll K H vs ds → (∀ d ∈ ds, (scV d).isSome = true) → DpAll K H' vs ds
  | _, _, .nil, _ => .nil
  | _, _, .cons r t, s => .cons (dp_sc r (s _ List.mem_cons_self)) (da_sc t fun d h => s d (List.mem_cons_of_mem _ h))
theorem dp_int {K : PySem.W.Frag} {H : Hp} {v : V} {i : Int} (h : Dp K H v (.int i)) : v = .int i := by cases h; rfl
theorem dp_bool {K : PySem.W.Frag} {H : Hp} {v : V} {i : Bool} (h : Dp K H v (.bool i)) : v = .bl i := by cases h; rfl
theorem dp_none {K : PySem.W.Frag} {H : Hp} {v : V} (h : Dp K H v .none) : v = .non := by cases h; rfl
theorem dp_list {K : PySem.W.Frag} {H : Hp} {v : V} {ds : List PD} (h : Dp K H v (.list ds)) : ∃ a xs, v = .ref a ∧ SqL K H a xs ∧ DpAll K H xs ds := by
  cases h with
  | lst h1 h2 => exact ⟨_, _, rfl, h1, h2⟩
theorem dp_tuple {K : PySem.W.Frag} {H : Hp} {v : V} {ds : List PD} (h : Dp K H v (.tuple ds)) : ∃ a xs, v = .ref a ∧ SqT K H a xs ∧ DpAll K H xs ds := by
  cases h with
  | tup h1 h2 => exact ⟨_, _, rfl, h1, h2⟩

/-- from (F, H) to (F2, H2): F what never changes any more, H the whole; the addresses of m may change -/
structure Stp (m : Addr → Prop) (F H F2 H2 : Hp) : Prop where
  ff : Same F F2
  fh : Same F2 H2
  hh : ∀ a o, ¬ m a → H a = some o → H2 a = some o
  nj : ∀ a, F a = none → H a ≠ none → F2 a = none
  hn : ∀ a, H a ≠ none → H2 a ≠ none
abbrev m0 : Addr → Prop := fun _ => False
theorem Stp.refl {m : Addr → Prop} {F H : Hp} (h : Same F H) : Stp m F H F H := ⟨Same.refl F, h, fun _ _ _ e => e, fun _ e _ => e, fun _ e => e⟩
theorem Stp.trans {m : Addr → Prop} {F H F1 H1 F2 H2 : Hp} (a : Stp m F H F1 H1) (b : Stp m F1 H1 F2 H2) : Stp m F H F2 H2 :=
  ⟨a.ff.trans b.ff, b.fh, fun c o n e => b.hh c o n (a.hh c o n e), fun c e n => b.nj c (a.nj c e n) (a.hn c n), fun c n => b.hn c (a.hn c n)⟩
theorem Stp.hs {F H F2 H2 : Hp} (a : Stp m0 F H F2 H2) : Same H H2 := fun c o e => a.hh c o (fun z => z) e
theorem Stp.wk {m : Addr → Prop} {F H F2 H2 : Hp} (a : Stp m0 F H F2 H2) : Stp m F H F2 H2 := ⟨a.ff, a.fh, fun c o _ e => a.hs c o e, a.nj, a.hn⟩
theorem same_new {H : Hp} {p : Addr} {o : HO} (h : H p = none) : Same H (upd H p o) := fun b x e => by
  rw [upd_ne (ne_of_none e h)]
  exact e
theorem up_some {H : Hp} {p a : Addr} {o : HO} (h : H a ≠ none) : upd H p o a ≠ none := by
  by_cases e : a = p
  · subst e; rw [upd_same]; exact fun z => nomatch z
  · rw [upd_ne e]; exact h
/-- a new object, kept for ever -/
theorem Stp.frz {m : Addr → Prop} {F H : Hp} {p : Addr} {o : HO} (h : Same F H) (hp : H p = none) : Stp m F H (upd F p o) (upd H p o) := by
  have fp : F p = none := h.free hp
  refine ⟨same_new fp, fun b x e => ?_, fun a u _ e => same_new hp a u e, fun a e n => ?_, fun a n => up_some n⟩
  · by_cases q : b = p
    · subst q; rw [upd_same] at e ⊢; exact e
    · rw [upd_ne q] at e ⊢; exact h b x e
  · rw [upd_ne (fun z => n (by rw [z]; exact hp))]
    exact e
/-- a new object that may still change -/
theorem Stp.mk1 {m : Addr → Prop} {F H : Hp} {p : Addr} {o : HO} (h : Same F H) (hp : H p = none) : Stp m F H F (upd H p o) :=
  ⟨Same.refl F, h.trans (same_new hp), fun a u _ e => same_new hp a u e, fun _ e _ => e, fun a n => up_some n⟩
theorem Stp.same {m : Addr → Prop} {F H H2 : Hp} (h : Same F H) (k : Same H H2) : Stp m F H F H2 := ⟨Same.refl F, h.trans k, fun a u _ e => k a u e, fun _ e _ => e, fun a n z => n (k.free z)⟩

/-! ## slots told by data -/
inductive Slot where
  | emp
  | d (x : PD)
  | own (b : Bool) (xs : List PD)
  | gen (b : Bool) (n : Int)
  | set (S : Int → Bool) (n : Nat)
def Slot.mt : Slot → Bool
  | .emp => false
  | .d _ => false
  | _ => true
/-- made since the start -/
def Slot.lc : Slot → Bool
  | .own b _ => b
  | .set _ _ => true
  | .gen b _ => b
  | _ => false
/-- a drawing list -/
def GenAt (H : Hp) (p : Addr) (n : Int) : Prop := ∃ a s c : Int, H p = some (.lst [.int a, .int s, .int c]) ∧ 0 ≤ a ∧ a < 10 ^ 600 ∧ 0 ≤ s ∧ s < 2147483647 ∧ 0 ≤ c ∧ c ≤ n
def SlotOk (K : PySem.W.Frag) (w : World) (F H : Hp) (o : Option V) : Slot → Prop
  | .emp => True
  | .d x => ∃ v, o = some v ∧ Dp K F v x
  | .own _ xs => ∃ p vs, o = some (.ref p) ∧ F p = none ∧ H p = some (.lst vs) ∧ DpAll K F vs xs
  | .gen _ n => ∃ p, o = some (.ref p) ∧ F p = none ∧ GenAt H p n
  | .set S n => ∃ p, o = some (.ref p) ∧ F p = none ∧ H p = some (SetO w p S n)
structure Sig (K : PySem.W.Frag) (w : World) (F0 H0 : Hp) (m : Addr → Prop) (F H : Hp) (σ : St) (δ : List Slot) : Prop where
  st : Stp m F0 H0 F H
  len : σ.length = δ.length
  ok : ∀ (i : Nat) (s : Slot), δ[i]? = some s → SlotOk K w F H ((σ[i]?).join) s
  dis : ∀ (i j : Nat) (si sj : Slot) (v : V), i ≠ j → δ[i]? = some si → δ[j]? = some sj → si.mt = true → sj.mt = true → σ[i]? = some (some v) → σ[j]? ≠ some (some v)
  fr : ∀ (i : Nat) (s : Slot) (p : Addr), δ[i]? = some s → s.mt = true → σ[i]? = some (some (.ref p)) → (s.lc = true → H0 p = none) ∧ (s.lc = false → m p)
section
variable {K : PySem.W.Frag} {w : World} {F0 H0 F H F2 H2 : Hp} {m : Addr → Prop} {σ : St} {δ : List Slot}
theorem Sig.fh (S : Sig K w F0 H0 m F H σ δ) : Same F H := S.st.fh
theorem slot_up {o : Option V} {s : Slot} (h : SlotOk K w F H o s) (e : Stp m0 F H F2 H2) : SlotOk K w F2 H2 o s := by
  cases s with
  | emp => exact h
  | d x =>
    obtain ⟨v, h1, h2⟩ := h
    exact ⟨v, h1, dp_up e.ff _ _ h2⟩
  | own b xs =>
    obtain ⟨p, vs, h1, h2, h3, h4⟩ := h
    exact ⟨p, vs, h1, e.nj p h2 (by rw [h3]; exact fun z => nomatch z), e.hs _ _ h3, da_up e.ff _ _ h4⟩
  | gen b' n =>
    obtain ⟨p, h1, h2, a, s, c, h3, h4⟩ := h
    exact ⟨p, h1, e.nj p h2 (by rw [h3]; exact fun z => nomatch z), a, s, c, e.hs _ _ h3, h4⟩
  | set S n =>
    obtain ⟨p, h1, h2, h3⟩ := h
    exact ⟨p, h1, e.nj p h2 (by rw [h3]; exact fun z => nomatch z), e.hs _ _ h3⟩
theorem Sig.up (S : Sig K w F0 H0 m F H σ δ) (e : Stp m0 F H F2 H2) : Sig K w F0 H0 m F2 H2 σ δ :=
  ⟨S.st.trans e.wk, S.len, fun i s h => slot_up (S.ok i s h) e, S.dis, S.fr⟩
theorem Sig.var (S : Sig K w F0 H0 m F H σ δ) {i : Nat} {x : PD} (h : δ[i]? = some (.d x)) : ∃ v, σ[i]? = some (some v) ∧ Dp K F v x := by
  obtain ⟨v, h1, h2⟩ := S.ok i _ h
  refine ⟨v, ?_, h2⟩
  cases e : σ[i]? with
  | none => rw [e] at h1; cases h1
  | some o => rw [e] at h1; exact congrArg some h1
theorem Sig.ref (S : Sig K w F0 H0 m F H σ δ) {i : Nat} {s : Slot} (h : δ[i]? = some s) (hm : s.mt = true) : ∃ p, σ[i]? = some (some (.ref p)) ∧ F p = none := by
  have q := S.ok i s h
  have r : ∃ p, (σ[i]?).join = some (.ref p) ∧ F p = none := by
    cases s with
    | emp => cases hm
    | d x => cases hm
    | own b xs => obtain ⟨p, vs, h1, h2, _⟩ := q; exact ⟨p, h1, h2⟩
    | gen b' n => obtain ⟨p, h1, h2, _⟩ := q; exact ⟨p, h1, h2⟩
    | set S n => obtain ⟨p, h1, h2, _⟩ := q; exact ⟨p, h1, h2⟩
  obtain ⟨p, h1, h2⟩ := r
  refine ⟨p, ?_, h2⟩
  cases e : σ[i]? with
  | none => rw [e] at h1; cases h1
  | some o => rw [e] at h1; exact congrArg some h1
theorem Sig.setD (S : Sig K w F0 H0 m F H σ δ) (i : Nat) {v : V} {x : PD} (h : Dp K F v x) : Sig K w F0 H0 m F H (σ.set i (some v)) (δ.set i (.d x)) := by
  refine ⟨S.st, by rw [List.length_set, List.length_set, S.len], fun j s e => ?_, fun j k si sj u jk ej ek mj mk => ?_, fun j s p e ms => ?_⟩
  · by_cases z : i = j
    · subst z
      by_cases q : i < δ.length
      · rw [List.getElem?_set_self q] at e
        rw [List.getElem?_set_self (by rw [S.len]; exact q)]
        cases e
        exact ⟨v, rfl, h⟩
      · rw [List.getElem?_eq_none (by rw [List.length_set]; omega)] at e
        cases e
    · rw [List.getElem?_set_ne z] at e
      rw [List.getElem?_set_ne z]
      exact S.ok j s e
  · have nj : i ≠ j := fun z => by
      subst z
      by_cases q : i < δ.length
      · rw [List.getElem?_set_self q] at ej; cases ej; cases mj
      · rw [List.getElem?_eq_none (by rw [List.length_set]; omega)] at ej; cases ej
    have nk : i ≠ k := fun z => by
      subst z
      by_cases q : i < δ.length
      · rw [List.getElem?_set_self q] at ek; cases ek; cases mk
      · rw [List.getElem?_eq_none (by rw [List.length_set]; omega)] at ek; cases ek
    rw [List.getElem?_set_ne nj] at ej
    rw [List.getElem?_set_ne nk] at ek
    rw [List.getElem?_set_ne nj, List.getElem?_set_ne nk]
    exact S.dis j k si sj u jk ej ek mj mk
  · have nj : i ≠ j := fun z => by
      subst z
      by_cases q : i < δ.length
      · rw [List.getElem?_set_self q] at e; cases e; cases ms
      · rw [List.getElem?_eq_none (by rw [List.length_set]; omega)] at e; cases e
    rw [List.getElem?_set_ne nj] at e
    rw [List.getElem?_set_ne nj]
    exact S.fr j s p e ms
/-- a slot that is forgotten -/
theorem Sig.drop (S : Sig K w F0 H0 m F H σ δ) (i : Nat) (o : Option V) : Sig K w F0 H0 m F H (σ.set i o) (δ.set i .emp) := by
  refine ⟨S.st, by rw [List.length_set, List.length_set, S.len], fun j s e => ?_, fun j k si sj u jk ej ek mj mk => ?_, fun j s p e ms => ?_⟩
  · by_cases z : i = j
    · subst z
      by_cases q : i < δ.length
      · rw [List.getElem?_set_self q] at e
        cases e
        exact trivial
      · rw [List.getElem?_eq_none (by rw [List.length_set]; omega)] at e
        cases e
    · rw [List.getElem?_set_ne z] at e
      rw [List.getElem?_set_ne z]
      exact S.ok j s e
  · have nj : i ≠ j := fun z => by
      subst z
      by_cases q : i < δ.length
      · rw [List.getElem?_set_self q] at ej; cases ej; cases mj
      · rw [List.getElem?_eq_none (by rw [List.length_set]; omega)] at ej; cases ej
    have nk : i ≠ k := fun z => by
      subst z
      by_cases q : i < δ.length
      · rw [List.getElem?_set_self q] at ek; cases ek; cases mk
      · rw [List.getElem?_eq_none (by rw [List.length_set]; omega)] at ek; cases ek
    rw [List.getElem?_set_ne nj] at ej
    rw [List.getElem?_set_ne nk] at ek
    rw [List.getElem?_set_ne nj, List.getElem?_set_ne nk]
    exact S.dis j k si sj u jk ej ek mj mk
  · have nj : i ≠ j := fun z => by
      subst z
      by_cases q : i < δ.length
      · rw [List.getElem?_set_self q] at e; cases e; cases ms
      · rw [List.getElem?_eq_none (by rw [List.length_set]; omega)] at e; cases e
    rw [List.getElem?_set_ne nj] at e
    rw [List.getElem?_set_ne nj]
    exact S.fr j s p e ms
/-- a slot that gets a changeable object of its own, new since the start and in no other slot -/
theorem Sig.setM (S : Sig K w F0 H0 m F H σ δ) (i : Nat) {p : Addr} {s : Slot} (h : SlotOk K w F H (some (.ref p)) s) (hm : s.mt = true) (h0 : (s.lc = true → H0 p = none) ∧ (s.lc = false → m p))
    (hx : ∀ (j : Nat) (sj : Slot), i ≠ j → δ[j]? = some sj → sj.mt = true → σ[j]? ≠ some (some (.ref p))) : Sig K w F0 H0 m F H (σ.set i (some (.ref p))) (δ.set i s) := by
  have self : ∀ (j : Nat) (sj : Slot), i = j → (δ.set i s)[j]? = some sj → i < δ.length ∧ sj = s ∧ (σ.set i (some (.ref p)))[j]? = some (some (.ref p)) := fun j sj z e => by
    subst z
    by_cases q : i < δ.length
    · rw [List.getElem?_set_self q] at e
      cases e
      exact ⟨q, rfl, List.getElem?_set_self (by rw [S.len]; exact q)⟩
    · rw [List.getElem?_eq_none (by rw [List.length_set]; omega)] at e
      cases e
  refine ⟨S.st, by rw [List.length_set, List.length_set, S.len], fun j sj e => ?_, fun j k si sj u jk ej ek mj mk eu => ?_, fun j sj q e ms eq => ?_⟩
  · by_cases z : i = j
    · obtain ⟨_, rfl, r⟩ := self j sj z e
      rw [r]
      exact h
    · rw [List.getElem?_set_ne z] at e ⊢
      exact S.ok j sj e
  · by_cases z : i = j
    · obtain ⟨_, rfl, r⟩ := self j si z ej
      rw [r] at eu
      cases eu
      have zk : i ≠ k := fun q => jk (z.symm.trans q)
      rw [List.getElem?_set_ne zk] at ek ⊢
      exact hx k sj zk ek mk
    · rw [List.getElem?_set_ne z] at ej eu
      by_cases zk : i = k
      · obtain ⟨_, rfl, r⟩ := self k sj zk ek
        rw [r]
        intro q
        cases q
        exact hx j si z ej mj eu
      · rw [List.getElem?_set_ne zk] at ek ⊢
        exact S.dis j k si sj u jk ej ek mj mk eu
  · by_cases z : i = j
    · obtain ⟨_, rfl, r⟩ := self j sj z e
      rw [r] at eq
      cases eq
      exact h0
    · rw [List.getElem?_set_ne z] at e eq
      exact S.fr j sj q e ms eq
/-- the object of a changeable slot changes -/
theorem Sig.chg (S : Sig K w F0 H0 m F H σ δ) {i : Nat} {p : Addr} {s s' : Slot} {o : HO} (hi : δ[i]? = some s) (hm : s.mt = true) (hp : σ[i]? = some (some (.ref p))) (hF : F p = none) (hH : H p ≠ none)
    (h : SlotOk K w F (upd H p o) (some (.ref p)) s') (hm' : s'.mt = true) (hl : s'.lc = s.lc) : Sig K w F0 H0 m F (upd H p o) σ (δ.set i s') := by
  have hlt : i < δ.length := (List.getElem?_eq_some_iff.mp hi).1
  have fr : m p ∨ H0 p = none := by
    cases q : s.lc with
    | true => exact .inr ((S.fr i s p hi hm hp).1 q)
    | false => exact .inl ((S.fr i s p hi hm hp).2 q)
  refine ⟨⟨S.st.ff, fun b x e => ?_, fun a u na e => ?_, S.st.nj, fun a n => up_some (S.st.hn a n)⟩, by rw [List.length_set, S.len], fun j sj e => ?_, fun j k si sj u jk ej ek mj mk eu => ?_, fun j sj q e ms eq => ?_⟩
  · rw [upd_ne (ne_of_none e hF)]
    exact S.fh b x e
  · have nap : a ≠ p := fun z => by
      subst z
      rcases fr with f | f
      · exact na f
      · rw [f] at e; cases e
    rw [upd_ne nap]
    exact S.st.hh a u na e
  · by_cases z : i = j
    · subst z
      rw [List.getElem?_set_self hlt] at e
      cases e
      rw [hp]
      exact h
    · rw [List.getElem?_set_ne z] at e
      have q := S.ok j sj e
      cases sj with
      | emp => exact trivial
      | d x => exact q
      | own b xs =>
        obtain ⟨p', vs, h1, h2, h3, h4⟩ := q
        have ne : p' ≠ p := fun y => by
          subst y
          refine S.dis i j s _ _ z hi e hm rfl hp ?_
          cases e1 : σ[j]? with
          | none => rw [e1] at h1; cases h1
          | some o => rw [e1] at h1; exact congrArg some h1
        exact ⟨p', vs, h1, h2, by rw [upd_ne ne]; exact h3, h4⟩
      | gen b' n =>
        obtain ⟨p', h1, h2, a, b, c, h3, h4⟩ := q
        have ne : p' ≠ p := fun y => by
          subst y
          refine S.dis i j s _ _ z hi e hm rfl hp ?_
          cases e1 : σ[j]? with
          | none => rw [e1] at h1; cases h1
          | some o => rw [e1] at h1; exact congrArg some h1
        exact ⟨p', h1, h2, a, b, c, by rw [upd_ne ne]; exact h3, h4⟩
      | set S' n =>
        obtain ⟨p', h1, h2, h3⟩ := q
        have ne : p' ≠ p := fun y => by
          subst y
          refine S.dis i j s _ _ z hi e hm rfl hp ?_
          cases e1 : σ[j]? with
          | none => rw [e1] at h1; cases h1
          | some o => rw [e1] at h1; exact congrArg some h1
        exact ⟨p', h1, h2, by rw [upd_ne ne]; exact h3⟩
  · have mtx : ∀ (l : Nat) (sl : Slot), (δ.set i s')[l]? = some sl → sl.mt = true → ∃ s2, δ[l]? = some s2 ∧ s2.mt = true := fun l sl e1 e2 => by
      by_cases z : i = l
      · subst z; exact ⟨s, hi, hm⟩
      · rw [List.getElem?_set_ne z] at e1; exact ⟨sl, e1, e2⟩
    obtain ⟨s1, a1, b1⟩ := mtx j si ej mj
    obtain ⟨s2, a2, b2⟩ := mtx k sj ek mk
    exact S.dis j k s1 s2 u jk a1 a2 b1 b2 eu
  · by_cases z : i = j
    · subst z
      rw [List.getElem?_set_self hlt] at e
      cases e
      exact ⟨fun y => (S.fr i s q hi hm eq).1 (hl.symm.trans y), fun y => (S.fr i s q hi hm eq).2 (hl.symm.trans y)⟩
    · rw [List.getElem?_set_ne z] at e
      exact S.fr j sj q e ms eq
/-- wiped slots -/
def wipeD (δ : List Slot) : List Nat → List Slot
  | [] => δ
  | v :: vs => (wipeD δ vs).set v .emp
theorem Sig.wipe (S : Sig K w F0 H0 m F H σ δ) : ∀ vs : List Nat, Sig K w F0 H0 m F H (L2.wipe σ vs) (wipeD δ vs)
  | [] => S
  | v :: vs => (S.wipe vs).drop v none
end
end MU

namespace MU
open PySem PySem.Spec L2
/-! ## what an expression is worth, by data -/
section
variable (K : PySem.W.Frag) (w : World)
/-- a value that may be kept -/
def EvD (te : TE) (δ : List Slot) (d : PD) : Prop := ∀ F0 H0 m F H σ, Sig K w F0 H0 m F H σ δ → ∀ Q : VK, (∀ v F2 H2, Stp m0 F H F2 H2 → Dp K F2 v d → Q v H2) → te σ H Q
/-- a value that may be read -/
def RdD (te : TE) (δ : List Slot) (d : PD) : Prop := ∀ F0 H0 m F H σ, Sig K w F0 H0 m F H σ δ → ∀ Q : VK, (∀ v F2 H2, Stp m0 F H F2 H2 → Dp K H2 v d → Q v H2) → te σ H Q
/-- a new list -/
def EvO (te : TE) (δ : List Slot) (ds : List PD) : Prop := ∀ F0 H0 m F H σ, Sig K w F0 H0 m F H σ δ → ∀ Q : VK,
  (∀ p vs F2 H2, Stp m0 F H F2 H2 → F2 p = none → H p = none → H2 p = some (.lst vs) → DpAll K F2 vs ds → Q (.ref p) H2) → te σ H Q
def TsB (tt : TT) (δ : List Slot) (b : Bool) : Prop := ∀ F0 H0 m F H σ, Sig K w F0 H0 m F H σ δ → ∀ Q : Bool → Hp → Prop, (∀ F2 H2, Stp m0 F H F2 H2 → Q b H2) → tt σ H Q
def EvA (ta : TA) (δ : List Slot) (ds : List PD) : Prop := ∀ F0 H0 m F H σ, Sig K w F0 H0 m F H σ δ → ∀ Q : List V → Hp → Prop, (∀ vs F2 H2, Stp m0 F H F2 H2 → DpAll K F2 vs ds → Q vs H2) → ta σ H Q
def RdA (ta : TA) (δ : List Slot) (ds : List PD) : Prop := ∀ F0 H0 m F H σ, Sig K w F0 H0 m F H σ δ → ∀ Q : List V → Hp → Prop, (∀ vs F2 H2, Stp m0 F H F2 H2 → DpAll K H2 vs ds → Q vs H2) → ta σ H Q
end
section
variable {K : PySem.W.Frag} {w : World} {δ : List Slot} {te ta tb : TE} {t u : TT} {d x y : PD} {ds es : List PD} {r : R2}
theorem EvD.rd (h : EvD K w te δ d) : RdD K w te δ d := fun _ _ _ _ _ _ S Q q => h _ _ _ _ _ _ S Q fun v F2 H2 s e => q v F2 H2 s (dp_up s.fh _ _ e)
theorem EvO.ev (h : EvO K w te δ ds) : EvD K w te δ (.list ds) := fun _ _ _ F H _ S Q q => h _ _ _ _ _ _ S Q fun p vs F2 H2 s f n e a =>
  q (.ref p) (upd F2 p (.lst vs)) H2 ⟨s.ff.trans (same_new f), fun b o eb => by
      by_cases z : b = p
      · subst z; rw [upd_same] at eb; cases eb; exact e
      · rw [upd_ne z] at eb; exact s.fh b o eb,
    s.hh, fun b eb nb => by
      rw [upd_ne (fun z => nb (by rw [z]; exact n))]
      exact s.nj b eb nb, s.hn⟩ (.lst (.inl (.inl upd_same)) (da_up (same_new f) _ _ a))
theorem EvO.rd (h : EvO K w te δ ds) : RdD K w te δ (.list ds) := h.ev.rd
theorem RdD.sc (h : RdD K w te δ d) (s : (scV d).isSome = true := by rfl) : EvD K w te δ d := fun _ _ _ F H _ S Q q => h _ _ _ _ _ _ S Q fun v F2 H2 st e => q v F2 H2 st (dp_sc e s)
theorem EvD.is (h : EvD K w te δ x) (e : x = y) : EvD K w te δ y := e ▸ h
theorem RdD.is (h : RdD K w te δ x) (e : x = y) : RdD K w te δ y := e ▸ h
theorem EvO.is (h : EvO K w te δ ds) (e : ds = es) : EvO K w te δ es := e ▸ h
theorem TsB.is {a b : Bool} (h : TsB K w t δ a) (e : a = b) : TsB K w t δ b := e ▸ h
theorem EvA.rd {tz : TA} (h : EvA K w tz δ ds) : RdA K w tz δ ds := fun _ _ _ _ _ _ S Q q => h _ _ _ _ _ _ S Q fun v F2 H2 s e => q v F2 H2 s (da_up s.fh _ _ e)
/-! names, constants -/
theorem ev_var {i : Nat} (h : δ[i]? = some (.d d)) : EvD K w (tVar i) δ d := fun _ _ _ F H σ S Q q => by
  obtain ⟨v, e, r⟩ := S.var h
  exact ⟨v, e, q v F H (.refl S.fh) r⟩
/-- the name of a list that may change: read -/
theorem rd_own {i : Nat} {b : Bool} (h : δ[i]? = some (.own b ds)) : RdD K w (tVar i) δ (.list ds) := fun _ _ _ F H σ S Q q => by
  obtain ⟨p, e, f⟩ := S.ref h rfl
  obtain ⟨p', vs, h1, h2, h3, h4⟩ := S.ok i _ h
  rw [e] at h1
  have z : p = p' := V.ref.inj (Option.some.inj h1)
  subst z
  exact ⟨_, e, q _ F H (.refl S.fh) (.lst (.inl (.inl h3)) (da_up S.fh _ _ h4))⟩
theorem ev_int {i : Int} : EvD K w (tC (.int i)) δ (.int i) := fun _ _ _ F H _ S Q q => q _ F H (.refl S.fh) (.int i)
theorem ev_bl {b : Bool} : EvD K w (tC (.bl b)) δ (.bool b) := fun _ _ _ F H _ S Q q => q _ F H (.refl S.fh) (.bl b)
theorem ev_non : EvD K w (tC .non) δ .none := fun _ _ _ F H _ S Q q => q _ F H (.refl S.fh) .non
theorem ev_str {z : Str} : EvD K w (tC (.str z)) δ (.str z) := fun _ _ _ F H _ S Q q => q _ F H (.refl S.fh) (.str z)
/-! operators: the answer lies in no heap -/
theorem rd_op2 {z : V} {e : PD} (ha : RdD K w ta δ x) (hb : RdD K w tb δ y) (hz : ∀ H : Hp, Dp K H z e) (hr : ∀ (H : Hp) (v u : V), Dp K H v x → Dp K H u y → ∀ Q : VK, Q z H → r v u H Q) : EvD K w (tOp r ta tb) δ e := fun _ _ _ F H σ S Q q =>
  ha _ _ _ _ _ _ S _ fun v F2 H2 s1 e1 => hb _ _ _ _ _ _ (S.up s1) _ fun u F3 H3 s2 e2 => hr H3 v u (dp_up s2.hs _ _ e1) e2 Q (q z F3 H3 (s1.trans s2) (hz F3))
theorem ev_int2 {g : Int → Int → V} {i j : Int} {e : PD} (ha : RdD K w ta δ (.int i)) (hb : RdD K w tb δ (.int j)) (hz : ∀ H : Hp, Dp K H (g i j) e) : EvD K w (tOp (rI0 g) ta tb) δ e :=
  rd_op2 ha hb hz fun H v u h1 h2 Q q => ⟨i, j, dp_int h1, dp_int h2, q⟩
theorem ev_int2C {C : Int → Int → Prop} {g : Int → Int → V} {i j : Int} {e : PD} (ha : RdD K w ta δ (.int i)) (hb : RdD K w tb δ (.int j)) (hc : C i j) (hz : ∀ H : Hp, Dp K H (g i j) e) : EvD K w (tOp (rI C g) ta tb) δ e :=
  rd_op2 ha hb hz fun H v u h1 h2 Q q => ⟨i, j, dp_int h1, dp_int h2, hc, q⟩
abbrev rAddI : R2 := rI0 fun i j => .int (i + j)
abbrev rSubI : R2 := rI0 fun i j => .int (i - j)
theorem ev_add {i j : Int} (ha : RdD K w ta δ (.int i)) (hb : RdD K w tb δ (.int j)) : EvD K w (tOp rAddI ta tb) δ (.int (i + j)) := ev_int2 ha hb fun H => .int _
theorem ev_sub {i j : Int} (ha : RdD K w ta δ (.int i)) (hb : RdD K w tb δ (.int j)) : EvD K w (tOp rSubI ta tb) δ (.int (i - j)) := ev_int2 ha hb fun H => .int _
theorem ev_mul {i j : Int} (ha : RdD K w ta δ (.int i)) (hb : RdD K w tb δ (.int j)) (hc : CMulX i j) : EvD K w (tOp (rI CMulX fun i j => .int (i * j)) ta tb) δ (.int (i * j)) := ev_int2C ha hb hc fun H => .int _
theorem ev_mod {i j : Int} (ha : RdD K w ta δ (.int i)) (hb : RdD K w tb δ (.int j)) (hc : 0 < j) : EvD K w (tOp (rI (fun _ j => 0 < j) fun i j => .int (i % j)) ta tb) δ (.int (i % j)) := ev_int2C ha hb hc fun H => .int _
theorem ev_div {i j : Int} (ha : RdD K w ta δ (.int i)) (hb : RdD K w tb δ (.int j)) (hc : CDivW i j) : EvD K w (tOp (rI CDivW fun i j => .int (i / j)) ta tb) δ (.int (i / j)) := ev_int2C ha hb hc fun H => .int _
theorem ev_pow {i j : Int} (ha : RdD K w ta δ (.int i)) (hb : RdD K w tb δ (.int j)) (hc : CPow i j) : EvD K w (tOp (rI CPow fun i j => .int (i ^ j.toNat)) ta tb) δ (.int (i ^ j.toNat)) := ev_int2C ha hb hc fun H => .int _
theorem ev_neg {i : Int} (ha : RdD K w ta δ (.int i)) : EvD K w (tUn (rU fun i => .int (-i)) ta) δ (.int (-i)) := fun _ _ _ F H σ S Q q =>
  ha _ _ _ _ _ _ S _ fun v F2 H2 s1 e1 => ⟨i, dp_int e1, q _ F2 H2 s1 (.int _)⟩
theorem ev_lt {i j : Int} (ha : RdD K w ta δ (.int i)) (hb : RdD K w tb δ (.int j)) : EvD K w (tOp (rI0 fun i j => .bl (decide (i < j))) ta tb) δ (.bool (decide (i < j))) := ev_int2 ha hb fun H => .bl _
theorem ev_le {i j : Int} (ha : RdD K w ta δ (.int i)) (hb : RdD K w tb δ (.int j)) : EvD K w (tOp (rI0 fun i j => .bl (decide (i ≤ j))) ta tb) δ (.bool (decide (i ≤ j))) := ev_int2 ha hb fun H => .bl _
theorem ev_gt {i j : Int} (ha : RdD K w ta δ (.int i)) (hb : RdD K w tb δ (.int j)) : EvD K w (tOp (rI0 fun i j => .bl (decide (j < i))) ta tb) δ (.bool (decide (j < i))) := ev_int2 ha hb fun H => .bl _
theorem ev_ge {i j : Int} (ha : RdD K w ta δ (.int i)) (hb : RdD K w tb δ (.int j)) : EvD K w (tOp (rI0 fun i j => .bl (decide (j ≤ i))) ta tb) δ (.bool (decide (j ≤ i))) := ev_int2 ha hb fun H => .bl _
theorem ev_eq (ha : RdD K w ta δ x) (hb : RdD K w tb δ y) (hx : SeqAt.shaped x = true) (hy : SeqAt.shaped y = true) : EvD K w (tOp (rEqD K) ta tb) δ (.bool (PyData.eqv x y)) :=
  rd_op2 ha hb (fun H => .bl _) fun H v u h1 h2 Q q => ⟨x, y, h1, h2, hx, hy, q⟩
theorem ev_ne (ha : RdD K w ta δ x) (hb : RdD K w tb δ y) (hx : SeqAt.shaped x = true) (hy : SeqAt.shaped y = true) : EvD K w (tOp (rNeD K) ta tb) δ (.bool (!PyData.eqv x y)) :=
  rd_op2 ha hb (fun H => .bl _) fun H v u h1 h2 Q q => ⟨x, y, h1, h2, hx, hy, q⟩
abbrev rIsN' : R2 := fun x y H Q => y = .non ∧ Q (.bl (decide (x = .non))) H
abbrev rNotN' : R2 := fun x y H Q => y = .non ∧ Q (.bl (!decide (x = .non))) H
def isNon : PD → Bool
  | .none => true
  | _ => false
theorem isNon_v {H : Hp} {v : V} (h : Dp K H v d) : decide (v = .non) = isNon d := by
  cases h with
  | non => rfl
  | bl b => exact decide_eq_false (fun z => nomatch z)
  | int i => exact decide_eq_false (fun z => nomatch z)
  | str i => exact decide_eq_false (fun z => nomatch z)
  | lst _ _ => exact decide_eq_false (fun z => nomatch z)
  | tup _ _ => exact decide_eq_false (fun z => nomatch z)
theorem ev_isN (ha : RdD K w ta δ x) : EvD K w (tOp rIsN' ta (tC .non)) δ (.bool (isNon x)) := fun _ _ _ F H σ S Q q =>
  ha _ _ _ _ _ _ S _ fun v F2 H2 s1 e1 => ⟨rfl, by rw [isNon_v e1]; exact q _ F2 H2 s1 (.bl _)⟩
theorem ev_notN (ha : RdD K w ta δ x) : EvD K w (tOp rNotN' ta (tC .non)) δ (.bool (!isNon x)) := fun _ _ _ F H σ S Q q =>
  ha _ _ _ _ _ _ S _ fun v F2 H2 s1 e1 => ⟨rfl, by rw [isNon_v e1]; exact q _ F2 H2 s1 (.bl _)⟩
/-- a < b < c -/
theorem ev_chain {g g' : Int → Int → Bool} {tc : TE} {i j k : Int} (ha : RdD K w ta δ (.int i)) (hb : RdD K w tb δ (.int j)) (hc : RdD K w tc δ (.int k)) :
    EvD K w (tChain (rI0 fun i j => .bl (g i j)) (rI0 fun i j => .bl (g' i j)) ta tb tc) δ (.bool (g i j && g' j k)) := fun _ _ _ F H σ S Q q =>
  ha _ _ _ _ _ _ S _ fun v F2 H2 s1 e1 => hb _ _ _ _ _ _ (S.up s1) _ fun u F3 H3 s2 e2 => ⟨i, j, dp_int e1, dp_int e2, g i j, rfl, by
    cases e : g i j with
    | true => exact hc _ _ _ _ _ _ ((S.up s1).up s2) _ fun z F4 H4 s3 e3 => ⟨j, k, dp_int e2, dp_int e3, by
        have q' := q (.bl (g i j && g' j k)) F4 H4 ((s1.trans s2).trans s3) (.bl _)
        rw [e, Bool.true_and] at q'
        exact q'⟩
    | false =>
      have q' := q (.bl (g i j && g' j k)) F3 H3 (s1.trans s2) (.bl _)
      rw [e, Bool.false_and] at q'
      exact q'⟩
/-! tests -/
theorem ts_cmp {b : Bool} (h : EvD K w te δ (.bool b)) : TsB K w (tTest te) δ b := fun _ _ _ F H σ S Q q => h _ _ _ _ _ _ S _ fun v F2 H2 s e => ⟨b, dp_bool e, q F2 H2 s⟩
theorem ts_val {b : Bool} (h : EvD K w te δ (.bool b)) : TsB K w (tB te) δ b := fun _ _ _ F H σ S Q q => h _ _ _ _ _ _ S _ fun v F2 H2 s e => ⟨b, dp_bool e, q F2 H2 s⟩
theorem ts_not {b : Bool} (h : TsB K w t δ b) : TsB K w (tNot t) δ (!b) := fun _ _ _ F H σ S Q q => h _ _ _ _ _ _ S _ fun F2 H2 s => q F2 H2 s
theorem ts_and {a b : Bool} (h : TsB K w t δ a) (h2 : a = true → TsB K w u δ b) : TsB K w (tAnd t u) δ (a && b) := fun _ _ _ F H σ S Q q => h _ _ _ _ _ _ S _ fun F2 H2 s => by
  cases a with
  | true => exact h2 rfl _ _ _ _ _ _ (S.up s) _ fun F3 H3 s2 => q F3 H3 (s.trans s2)
  | false => exact q F2 H2 s
theorem ts_or {a b : Bool} (h : TsB K w t δ a) (h2 : a = false → TsB K w u δ b) : TsB K w (tOr t u) δ (a || b) := fun _ _ _ F H σ S Q q => h _ _ _ _ _ _ S _ fun F2 H2 s => by
  cases a with
  | false => exact h2 rfl _ _ _ _ _ _ (S.up s) _ fun F3 H3 s2 => q F3 H3 (s.trans s2)
  | true => exact q F2 H2 s
theorem ev_andV {a b : Bool} (h : EvD K w ta δ (.bool a)) (h2 : a = true → EvD K w tb δ (.bool b)) : EvD K w (tAndV ta tb) δ (.bool (a && b)) := fun _ _ _ F H σ S Q q => h _ _ _ _ _ _ S _ fun v F2 H2 s e => ⟨a, dp_bool e, by
  cases a with
  | true => exact h2 rfl _ _ _ _ _ _ (S.up s) _ fun v F3 H3 s2 e2 => q v F3 H3 (s.trans s2) e2
  | false => exact q _ F2 H2 s (.bl _)⟩
theorem ev_orV {a b : Bool} (h : EvD K w ta δ (.bool a)) (h2 : a = false → EvD K w tb δ (.bool b)) : EvD K w (tOrV ta tb) δ (.bool (a || b)) := fun _ _ _ F H σ S Q q => h _ _ _ _ _ _ S _ fun v F2 H2 s e => ⟨a, dp_bool e, by
  cases a with
  | false => exact h2 rfl _ _ _ _ _ _ (S.up s) _ fun v F3 H3 s2 e2 => q v F3 H3 (s.trans s2) e2
  | true => exact q _ F2 H2 s (.bl _)⟩
theorem ev_notV {a : Bool} (h : EvD K w ta δ (.bool a)) : EvD K w (tNotV ta) δ (.bool (!a)) := fun _ _ _ F H σ S Q q => h _ _ _ _ _ _ S _ fun v F2 H2 s e => ⟨a, dp_bool e, q _ F2 H2 s (.bl _)⟩
theorem ev_if {b : Bool} (h : TsB K w t δ b) (h1 : b = true → EvD K w ta δ d) (h2 : b = false → EvD K w tb δ d) : EvD K w (tIf t ta tb) δ d := fun _ _ _ F H σ S Q q => h _ _ _ _ _ _ S _ fun F2 H2 s => by
  cases b with
  | true => exact h1 rfl _ _ _ _ _ _ (S.up s) _ fun v F3 H3 s2 e2 => q v F3 H3 (s.trans s2) e2
  | false => exact h2 rfl _ _ _ _ _ _ (S.up s) _ fun v F3 H3 s2 e2 => q v F3 H3 (s.trans s2) e2
/-! arguments -/
theorem ea_nil : EvA K w tNil δ [] := fun _ _ _ F H _ S Q q => q [] F H (.refl S.fh) .nil
theorem ea_cons {tr : TA} (h : EvD K w te δ d) (hr : EvA K w tr δ ds) : EvA K w (tCons te tr) δ (d :: ds) := fun _ _ _ F H _ S Q q =>
  h _ _ _ _ _ _ S _ fun v F2 H2 s e => hr _ _ _ _ _ _ (S.up s) _ fun vs F3 H3 s2 e2 => q (v :: vs) F3 H3 (s.trans s2) (.cons (dp_up s2.ff _ _ e) e2)
theorem ra_nil : RdA K w tNil δ [] := fun _ _ _ F H _ S Q q => q [] F H (.refl S.fh) .nil
theorem ra_cons {tr : TA} (h : RdD K w te δ d) (hr : RdA K w tr δ ds) : RdA K w (tCons te tr) δ (d :: ds) := fun _ _ _ F H _ S Q q =>
  h _ _ _ _ _ _ S _ fun v F2 H2 s e => hr _ _ _ _ _ _ (S.up s) _ fun vs F3 H3 s2 e2 => q (v :: vs) F3 H3 (s.trans s2) (.cons (dp_up s2.hs _ _ e) e2)
/-! displays, items, slices -/
theorem small_line {n : Nat} (h : n ≤ 100000) : n ≤ sizeLine := Nat.le_trans h (by decide)
theorem ev_tup {t : TA} (h : EvA K w t δ ds) (hl : ds.length ≤ 100000) : EvD K w (tTup t) δ (.tuple ds) := fun _ _ _ F H _ S Q q =>
  h _ _ _ _ _ _ S _ fun vs F2 H2 s e => ⟨by rw [da_len e]; exact small_line hl, fun p hp =>
    q (.ref p) (upd F2 p (.tup vs)) _ (s.trans (.frz s.fh hp)) (.tup (.inl (.inl upd_same)) (da_up (same_new (s.fh.free hp)) _ _ e))⟩
theorem eo_lst {t : TA} (h : EvA K w t δ ds) (hl : ds.length ≤ 100000) : EvO K w (tLst t) δ ds := fun _ _ _ F H _ S Q q =>
  h _ _ _ _ _ _ S _ fun vs F2 H2 s e => ⟨by rw [da_len e]; exact small_line hl, fun p hp =>
    q p vs F2 _ (s.trans (.mk1 s.fh hp)) (s.fh.free hp) (by
      cases e1 : H p with
      | none => rfl
      | some o => rw [s.hs _ _ e1] at hp; cases hp) upd_same e⟩
theorem at_da {H : Hp} {xs : List V} {i : Int} (h : DpAll K H xs ds) (e : atI ds i = some d) : ∃ v, atI xs i = some v ∧ Dp K H v d := by
  unfold atI at e ⊢
  rw [da_len h]
  cases q : ixN ds.length i with
  | none => rw [q] at e; cases e
  | some j =>
    rw [q] at e
    exact da_get h e
/-- xs[i], xs a list or a tuple that is kept -/
theorem ev_ixL {i : Int} (ha : EvD K w ta δ (.list ds)) (hb : EvD K w tb δ (.int i)) (e : atI ds i = some d) : EvD K w (tOp (rIxL K) ta tb) δ d := fun _ _ _ F H _ S Q q =>
  ha _ _ _ _ _ _ S _ fun v F2 H2 s e1 => hb _ _ _ _ _ _ (S.up s) _ fun u F3 H3 s2 e2 => by
    obtain ⟨a, xs, rfl, hs, hd⟩ := dp_list (dp_up s2.ff _ _ e1)
    obtain ⟨v, g1, g2⟩ := at_da hd e
    exact ⟨a, xs, i, v, rfl, dp_int e2, s2.fh.seq hs, g1, q v F3 H3 (s.trans s2) g2⟩
theorem ev_ixT {i : Int} (ha : EvD K w ta δ (.tuple ds)) (hb : EvD K w tb δ (.int i)) (e : atI ds i = some d) : EvD K w (tOp (rIxT K) ta tb) δ d := fun _ _ _ F H _ S Q q =>
  ha _ _ _ _ _ _ S _ fun v F2 H2 s e1 => hb _ _ _ _ _ _ (S.up s) _ fun u F3 H3 s2 e2 => by
    obtain ⟨a, xs, rfl, hs, hd⟩ := dp_tuple (dp_up s2.ff _ _ e1)
    obtain ⟨v, g1, g2⟩ := at_da hd e
    exact ⟨a, xs, i, v, rfl, dp_int e2, sqt_up s2.fh hs, g1, q v F3 H3 (s.trans s2) g2⟩
theorem rd_ixL {i : Int} (ha : RdD K w ta δ (.list ds)) (hb : RdD K w tb δ (.int i)) (e : atI ds i = some d) : RdD K w (tOp (rIxL K) ta tb) δ d := fun _ _ _ F H _ S Q q =>
  ha _ _ _ _ _ _ S _ fun v F2 H2 s e1 => hb _ _ _ _ _ _ (S.up s) _ fun u F3 H3 s2 e2 => by
    obtain ⟨a, xs, rfl, hs, hd⟩ := dp_list (dp_up s2.hs _ _ e1)
    obtain ⟨v, g1, g2⟩ := at_da hd e
    exact ⟨a, xs, i, v, rfl, dp_int e2, hs, g1, q v F3 H3 (s.trans s2) g2⟩
theorem rd_ixT {i : Int} (ha : RdD K w ta δ (.tuple ds)) (hb : RdD K w tb δ (.int i)) (e : atI ds i = some d) : RdD K w (tOp (rIxT K) ta tb) δ d := fun _ _ _ F H _ S Q q =>
  ha _ _ _ _ _ _ S _ fun v F2 H2 s e1 => hb _ _ _ _ _ _ (S.up s) _ fun u F3 H3 s2 e2 => by
    obtain ⟨a, xs, rfl, hs, hd⟩ := dp_tuple (dp_up s2.hs _ _ e1)
    obtain ⟨v, g1, g2⟩ := at_da hd e
    exact ⟨a, xs, i, v, rfl, dp_int e2, hs, g1, q v F3 H3 (s.trans s2) g2⟩
/-! built-ins -/
theorem rd_call {r : List V → Hp → VK → Prop} {t : TA} {z : V} {e : PD} (h : RdA K w t δ ds) (hz : ∀ H : Hp, Dp K H z e) (hr : ∀ (H : Hp) (vs : List V), DpAll K H vs ds → ∀ Q : VK, Q z H → r vs H Q) : EvD K w (tCB r t) δ e := fun _ _ _ F H _ S Q q =>
  h _ _ _ _ _ _ S _ fun vs F2 H2 s e => hr H2 vs e Q (q z F2 H2 s (hz F2))
theorem da1 {H : Hp} {vs : List V} (h : DpAll K H vs [d]) : ∃ v, vs = [v] ∧ Dp K H v d := by
  cases h with
  | cons r t => cases t; exact ⟨_, rfl, r⟩
theorem da2 {H : Hp} {vs : List V} (h : DpAll K H vs [d, x]) : ∃ v u, vs = [v, u] ∧ Dp K H v d ∧ Dp K H u x := by
  cases h with
  | cons r t => obtain ⟨u, rfl, r2⟩ := da1 t; exact ⟨_, u, rfl, r, r2⟩
def seqOf : PD → Option (List PD)
  | .list xs => some xs
  | .tuple xs => some xs
  | _ => none
theorem dp_seq {H : Hp} {v : V} (h : Dp K H v d) (e : seqOf d = some ds) : ∃ a xs, v = .ref a ∧ (SqL K H a xs ∨ SqT K H a xs) ∧ DpAll K H xs ds := by
  cases h with
  | lst h1 h2 => cases e; exact ⟨_, _, rfl, .inl h1, h2⟩
  | tup h1 h2 => cases e; exact ⟨_, _, rfl, .inr h1, h2⟩
  | _ => cases e
abbrev rLen (K : PySem.W.Frag) : List V → Hp → VK → Prop := fun xs H Q => ∃ p ys, xs = [.ref p] ∧ (SqL K H p ys ∨ SqT K H p ys) ∧ Q (.int ys.length) H
theorem ev_len (ha : RdD K w ta δ d) (e : seqOf d = some ds := by rfl) : EvD K w (tCB (rLen K) (tCons ta tNil)) δ (.int ds.length) :=
  rd_call (ra_cons ha ra_nil) (fun H => .int _) fun H vs h Q q => by
    obtain ⟨v, rfl, r⟩ := da1 h
    obtain ⟨a, xs, rfl, hs, hd⟩ := dp_seq r e
    exact ⟨a, xs, rfl, hs, by rw [da_len hd]; exact q⟩
abbrev rInt1 : List V → Hp → VK → Prop := fun xs H Q => (∃ i, xs = [.int i] ∧ Q (.int i) H) ∨ ∃ k, xs = [.bl k] ∧ Q (.int (if k then 1 else 0)) H
theorem ev_toInt {i : Int} (ha : RdD K w ta δ (.int i)) : EvD K w (tCB rInt1 (tCons ta tNil)) δ (.int i) :=
  rd_call (ra_cons ha ra_nil) (fun H => .int _) fun H vs h Q q => by
    obtain ⟨v, rfl, r⟩ := da1 h
    cases r
    exact .inl ⟨i, rfl, q⟩
theorem ev_toIntB {b : Bool} (ha : RdD K w ta δ (.bool b)) : EvD K w (tCB rInt1 (tCons ta tNil)) δ (.int (if b then 1 else 0)) :=
  rd_call (ra_cons ha ra_nil) (fun H => .int _) fun H vs h Q q => by
    obtain ⟨v, rfl, r⟩ := da1 h
    cases r
    exact .inr ⟨b, rfl, q⟩
abbrev rMax2 : List V → Hp → VK → Prop := fun xs H Q => ∃ i j, xs = [.int i, .int j] ∧ Q (.int (if j > i then j else i)) H
abbrev rMin2 : List V → Hp → VK → Prop := fun xs H Q => ∃ i j, xs = [.int i, .int j] ∧ Q (.int (if j < i then j else i)) H
theorem ev_max2 {i j : Int} (ha : RdD K w ta δ (.int i)) (hb : RdD K w tb δ (.int j)) : EvD K w (tCB rMax2 (tCons ta (tCons tb tNil))) δ (.int (max i j)) :=
  rd_call (ra_cons ha (ra_cons hb ra_nil)) (fun H => .int _) fun H vs h Q q => by
    obtain ⟨v, u, rfl, r, r2⟩ := da2 h
    cases r
    cases r2
    refine ⟨i, j, rfl, ?_⟩
    rw [show (if j > i then j else i) = max i j by split <;> omega]
    exact q
theorem ev_min2 {i j : Int} (ha : RdD K w ta δ (.int i)) (hb : RdD K w tb δ (.int j)) : EvD K w (tCB rMin2 (tCons ta (tCons tb tNil))) δ (.int (min i j)) :=
  rd_call (ra_cons ha (ra_cons hb ra_nil)) (fun H => .int _) fun H vs h Q q => by
    obtain ⟨v, u, rfl, r, r2⟩ := da2 h
    cases r
    cases r2
    refine ⟨i, j, rfl, ?_⟩
    rw [show (if j < i then j else i) = min i j by split <;> omega]
    exact q
theorem ev_bits {i : Int} (ha : RdD K w ta δ (.int i)) : EvD K w (tBits ta) δ (.int (Builtin.Int.intBits i : Nat)) := fun _ _ _ F H σ S Q q =>
  ha _ _ _ _ _ _ S _ fun v F2 H2 s1 e1 => ⟨i, dp_int e1, q _ F2 H2 s1 (.int _)⟩
/-! x in xs -/
def flatD : PD → Bool
  | .none => true
  | .bool _ => true
  | .int _ => true
  | .str _ => true
  | _ => false
theorem flat_v {H : Hp} {v : V} (h : Dp K H v d) : flatV v = flatD d := by cases h <;> rfl
theorem flats_v {H : Hp} : ∀ {vs : List V} {ds : List PD}, DpAll K H vs ds → ds.all flatD = true → vs.all flatV = true
  | _, _, .nil, _ => rfl
  | _, _, .cons r t, e => by
    rw [List.all_cons, Bool.and_eq_true] at e ⊢
    exact ⟨by rw [flat_v r]; exact e.1, flats_v t e.2⟩
theorem eq_v {H : Hp} {v u : V} (h : Dp K H v x) (h2 : Dp K H u y) (f : flatD x = true) (g : flatD y = true) : eqV v u = PyData.eqv x y := by
  cases h <;> cases h2 <;> first | rfl | (cases f; done) | (cases g; done) | (simp [eqV, PyData.eqv]; done)
theorem in_v {H : Hp} {u : V} (h2 : Dp K H u y) (g : flatD y = true) : ∀ {vs : List V} {ds : List PD}, DpAll K H vs ds → ds.all flatD = true → inV u vs = ds.any fun z => PyData.eqv z y
  | _, _, .nil, _ => rfl
  | _, _, .cons r t, e => by
    rw [List.all_cons, Bool.and_eq_true] at e
    have ih := in_v h2 g t e.2
    unfold inV at ih ⊢
    rw [List.any_cons, List.any_cons, ih, eq_v r h2 e.1 g]
theorem ev_in (ha : RdD K w ta δ x) (hb : RdD K w tb δ d) (hx : flatD x = true) (hd : ds.all flatD = true) (e : seqOf d = some ds := by rfl) : EvD K w (tOp (rIn K false) ta tb) δ (.bool (ds.any fun z => PyData.eqv z x)) :=
  rd_op2 ha hb (fun H => .bl _) fun H v u h1 h2 Q q => by
    obtain ⟨a, xs, rfl, hs, hd'⟩ := dp_seq h2 e
    refine ⟨a, xs, rfl, hs, by rw [flat_v h1]; exact hx, flats_v hd' hd, ?_⟩
    rw [in_v h1 hx hd' hd]
    exact q
theorem ev_notin (ha : RdD K w ta δ x) (hb : RdD K w tb δ d) (hx : flatD x = true) (hd : ds.all flatD = true) (e : seqOf d = some ds := by rfl) : EvD K w (tOp (rIn K true) ta tb) δ (.bool (!ds.any fun z => PyData.eqv z x)) :=
  rd_op2 ha hb (fun H => .bl _) fun H v u h1 h2 Q q => by
    obtain ⟨a, xs, rfl, hs, hd'⟩ := dp_seq h2 e
    refine ⟨a, xs, rfl, hs, by rw [flat_v h1]; exact hx, flats_v hd' hd, ?_⟩
    rw [in_v h1 hx hd' hd]
    exact q
end
end MU

namespace MU
open PySem PySem.Spec L2
/-! ## statements, by data -/
inductive Ret where
  | d (x : PD)
  | own (xs : List PD)
def RetOk (K : PySem.W.Frag) (H0 F H : Hp) (v : V) : Ret → Prop
  | .d x => Dp K F v x
  | .own xs => ∃ p vs, v = .ref p ∧ F p = none ∧ H0 p = none ∧ H p = some (.lst vs) ∧ DpAll K F vs xs
abbrev Dl := List Slot
abbrev PN := List Slot → Prop
/-- from the slots δ the statement goes on with slots of nx (bk, ct: by break, continue), or hands back by rt -/
def Run (K : PySem.W.Frag) (w : World) (ts : TS) (δ : List Slot) (nx : PN) (rt : List Slot → Ret → Prop) (bk ct : PN) : Prop :=
  ∀ F0 H0 m F H σ, Sig K w F0 H0 m F H σ δ → ∀ D : Ends,
    (∀ δ' F2 H2 σ2, nx δ' → Same F F2 → Sig K w F0 H0 m F2 H2 σ2 δ' → D.nx σ2 H2) →
    (∀ δ' r v F2 H2 σ2, rt δ' r → Same F F2 → Sig K w F0 H0 m F2 H2 σ2 δ' → RetOk K H0 F2 H2 v r → D.rt v H2) →
    (∀ δ' F2 H2 σ2, bk δ' → Same F F2 → Sig K w F0 H0 m F2 H2 σ2 δ' → D.bk σ2 H2) →
    (∀ δ' F2 H2 σ2, ct δ' → Same F F2 → Sig K w F0 H0 m F2 H2 σ2 δ' → D.ct σ2 H2) → ts D σ H
abbrev no1 : PN := fun _ => False
abbrev no2 : List Slot → Ret → Prop := fun _ _ => False
section
variable {K : PySem.W.Frag} {w : World} {δ δ' : List Slot} {te ta tb : TE} {tt : TT} {t u : TS} {d x y : PD} {ds es : List PD} {nx nx' mid bk ct : PN} {rt : List Slot → Ret → Prop} {g : TG}
theorem new_loc {F0 H0 F H : Hp} {m : Addr → Prop} {σ : St} {p : Addr} {s : Slot} (S : Sig K w F0 H0 m F H σ δ) (np : H p = none) (l : s.lc = true := by rfl) : (s.lc = true → H0 p = none) ∧ (s.lc = false → m p) := by
  have q : H0 p = none := by
    cases q : H0 p with
    | none => rfl
    | some o => exact absurd np (S.st.hn p (by rw [q]; exact fun z => nomatch z))
  exact ⟨fun _ => q, fun z => by rw [l] at z; cases z⟩
theorem Run.imp (h : Run K w t δ nx rt bk ct) (n : ∀ δ', nx δ' → nx' δ') : Run K w t δ nx' rt bk ct := fun _ _ _ F H σ S D a b c e => h _ _ _ _ _ _ S D (fun δ' F2 H2 σ2 q => a δ' F2 H2 σ2 (n _ q)) b c e
theorem run_next (h : nx δ) : Run K w tNext δ nx rt bk ct := fun _ _ _ F H σ S D a _ _ _ => a δ F H σ h (Same.refl F) S
theorem run_seq (h : Run K w t δ mid rt bk ct) (h2 : ∀ δ', mid δ' → Run K w u δ' nx rt bk ct) : Run K w (tSeq t u) δ nx rt bk ct := fun _ _ _ F H σ S D a b c e =>
  h _ _ _ _ _ _ S { D with nx := u D } (fun δ' F2 H2 σ2 q s S2 => h2 δ' q _ _ _ _ _ _ S2 D (fun δ'' F3 H3 σ3 q3 s3 S3 => a δ'' F3 H3 σ3 q3 (s.trans s3) S3)
      (fun δ'' r v F3 H3 σ3 q3 s3 S3 R => b δ'' r v F3 H3 σ3 q3 (s.trans s3) S3 R) (fun δ'' F3 H3 σ3 q3 s3 S3 => c δ'' F3 H3 σ3 q3 (s.trans s3) S3) (fun δ'' F3 H3 σ3 q3 s3 S3 => e δ'' F3 H3 σ3 q3 (s.trans s3) S3)) b c e
/-- x = e -/
theorem run_set {i : Nat} (h : EvD K w te δ d) (n : nx (δ.set i (.d d))) : Run K w (tAsg te (gName i)) δ nx rt bk ct := fun _ _ _ F H σ S D a _ _ _ =>
  h _ _ _ _ _ _ S _ fun v F2 H2 s e => a _ F2 H2 _ n s.ff ((S.up s).setD i e)
/-- x = e, e a new list that will change -/
theorem run_setO {i : Nat} (h : EvO K w te δ ds) (n : nx (δ.set i (.own true ds))) : Run K w (tAsg te (gName i)) δ nx rt bk ct := fun F0 H0 m F H σ S D a _ _ _ =>
  h _ _ _ _ _ _ S _ fun p vs F2 H2 s f np e dp => a _ F2 H2 _ n s.ff ((S.up s).setM i ⟨p, vs, rfl, f, e, dp⟩ rfl (new_loc S np) fun j sj _ ej mj eq => by
      obtain ⟨p', e1, _⟩ := S.ref ej mj
      rw [e1] at eq
      cases eq
      have q := S.ok j sj ej
      rw [e1] at q
      cases sj with
      | emp => cases mj
      | d x => cases mj
      | own b xs => obtain ⟨_, _, h1, _, h3, _⟩ := q; cases h1; rw [np] at h3; cases h3
      | gen b' n => obtain ⟨_, h1, _, _, _, _, h3, _⟩ := q; cases h1; rw [np] at h3; cases h3
      | set S' n => obtain ⟨_, h1, _, h3⟩ := q; cases h1; rw [np] at h3; cases h3)
theorem run_if {b : Bool} (h : TsB K w tt δ b) (h1 : b = true → Run K w t δ nx rt bk ct) (h2 : b = false → Run K w u δ nx rt bk ct) : Run K w (tIfS tt t u) δ nx rt bk ct := fun _ _ _ F H σ S D a r c e =>
  h _ _ _ _ _ _ S _ fun F2 H2 s => by
    cases b with
    | true => exact h1 rfl _ _ _ _ _ _ (S.up s) D (fun δ' F3 H3 σ3 q s2 S3 => a δ' F3 H3 σ3 q (s.ff.trans s2) S3) (fun δ' z v F3 H3 σ3 q s2 S3 R => r δ' z v F3 H3 σ3 q (s.ff.trans s2) S3 R) (fun δ' F3 H3 σ3 q s2 S3 => c δ' F3 H3 σ3 q (s.ff.trans s2) S3) (fun δ' F3 H3 σ3 q s2 S3 => e δ' F3 H3 σ3 q (s.ff.trans s2) S3)
    | false => exact h2 rfl _ _ _ _ _ _ (S.up s) D (fun δ' F3 H3 σ3 q s2 S3 => a δ' F3 H3 σ3 q (s.ff.trans s2) S3) (fun δ' z v F3 H3 σ3 q s2 S3 R => r δ' z v F3 H3 σ3 q (s.ff.trans s2) S3 R) (fun δ' F3 H3 σ3 q s2 S3 => c δ' F3 H3 σ3 q (s.ff.trans s2) S3) (fun δ' F3 H3 σ3 q s2 S3 => e δ' F3 H3 σ3 q (s.ff.trans s2) S3)
theorem run_ret (h : EvD K w te δ d) (n : rt δ (.d d)) : Run K w (tRet te) δ nx rt bk ct := fun _ _ _ F H σ S D _ b _ _ =>
  h _ _ _ _ _ _ S _ fun v F2 H2 s e => b δ (.d d) v F2 H2 σ n s.ff (S.up s) e
theorem run_retO (h : EvO K w te δ ds) (n : rt δ (.own ds)) : Run K w (tRet te) δ nx rt bk ct := fun F0 H0 m F H σ S D _ b _ _ =>
  h _ _ _ _ _ _ S _ fun p vs F2 H2 s f np e dp => b δ (.own ds) (.ref p) F2 H2 σ n s.ff (S.up s) ⟨p, vs, rfl, f, (by
    cases q : H0 p with
    | none => rfl
    | some o => exact absurd np (S.st.hn p (by rw [q]; exact fun z => nomatch z))), e, dp⟩
/-- return x, x the name of a list of the def's own -/
theorem run_retV {i : Nat} (hi : δ[i]? = some (.own true ds)) (n : rt δ (.own ds)) : Run K w (tRet (tVar i)) δ nx rt bk ct := fun F0 H0 m F H σ S D _ b _ _ => by
  obtain ⟨p, e, f⟩ := S.ref hi rfl
  obtain ⟨p', vs, h1, h2, h3, h4⟩ := S.ok i _ hi
  rw [e] at h1
  cases h1
  have q := (S.fr i _ p hi rfl e).1 rfl
  exact ⟨_, e, b δ (.own ds) (.ref p) F H σ n (Same.refl F) S ⟨p, vs, rfl, f, q, h3, h4⟩⟩
theorem run_drop (h : EvD K w te δ d) (n : nx δ) : Run K w (tDrop te) δ nx rt bk ct := fun _ _ _ F H σ S D a _ _ _ =>
  h _ _ _ _ _ _ S _ fun v F2 H2 s e => a _ F2 H2 _ n s.ff (S.up s)
theorem run_break (n : bk δ) : Run K w tBreak δ nx rt bk ct := fun _ _ _ F H σ S D _ _ c _ => c δ F H σ n (Same.refl F) S
theorem run_cont (n : ct δ) : Run K w tCont δ nx rt bk ct := fun _ _ _ F H σ S D _ _ _ e => e δ F H σ n (Same.refl F) S
theorem run_never (n : False) : Run K w t δ nx rt bk ct := n.elim
end
end MU

namespace MU
open PySem PySem.Spec L2
section
variable {K : PySem.W.Frag} {w : World} {δ δ' : List Slot} {te ta tb : TE} {tt : TT} {t u : TS} {d x y : PD} {ds es : List PD} {nx nx' mid bk ct : PN} {rt : List Slot → Ret → Prop} {g : TG} {wi : TI}
/-! ## lists of one's own that change -/
theorem Sig.own {F0 H0 F H : Hp} {m : Addr → Prop} {σ : L2.St} (S : Sig K w F0 H0 m F H σ δ) {i : Nat} {b : Bool} (hi : δ[i]? = some (.own b ds)) : ∃ p vs, σ[i]? = some (some (.ref p)) ∧ F p = none ∧ H p = some (.lst vs) ∧ DpAll K F vs ds := by
  obtain ⟨p, e, f⟩ := S.ref hi rfl
  obtain ⟨p', vs, h1, h2, h3, h4⟩ := S.ok i _ hi
  rw [e] at h1
  cases h1
  exact ⟨p, vs, e, f, h3, h4⟩
theorem lt_line {n : Nat} (h : n < 100000) : n < sizeLine := Nat.lt_of_lt_of_le h (by decide)
theorem run_append {i : Nat} {b : Bool} (hi : δ[i]? = some (.own b ds)) (h : EvD K w te δ d) (hl : ds.length < 100000) (n : nx (δ.set i (.own b (ds ++ [d])))) :
    Run K w (tDrop (tBM K "list" rAppend (tVar i) (tCons te tNil))) δ nx rt bk ct := fun _ _ _ F H σ S D a _ _ _ => by
  obtain ⟨p, vs, e1, f1, h1, d1⟩ := S.own hi
  refine ⟨_, e1, .inl ⟨rfl, vs, .inl (.inl h1)⟩, h _ _ _ _ _ _ S _ fun v F2 H2 s e => ?_⟩
  have f2 : F2 p = none := s.nj p f1 (by rw [h1]; exact fun z => nomatch z)
  have h2 : H2 p = some (.lst vs) := s.hs _ _ h1
  refine ⟨p, vs, v, rfl, rfl, h2, by rw [da_len d1]; exact lt_line hl, ?_⟩
  exact a _ F2 _ σ n s.ff ((S.up s).chg hi rfl e1 f2 (by rw [h2]; exact fun z => nomatch z) ⟨p, _, rfl, f2, upd_same, da_app (da_up s.ff _ _ d1) (.cons e .nil)⟩ rfl rfl)
theorem run_setitem {i j : Nat} {k : Int} {b : Bool} {tk : TE} (hi : δ[i]? = some (.own b ds)) (h : EvD K w te δ d) (hk : EvD K w tk δ (.int k)) (hj : ixN ds.length k = some j) (n : nx (δ.set i (.own b (ds.set j d)))) :
    Run K w (tAsg te (gSub (tVar i) tk rSetL)) δ nx rt bk ct := fun _ _ _ F H σ S D a _ _ _ =>
  h _ _ _ _ _ _ S _ fun v F2 H2 s e => by
    obtain ⟨p, vs, e1, f1, h1, d1⟩ := (S.up s).own hi
    refine ⟨_, e1, hk _ _ _ _ _ _ (S.up s) _ fun u F3 H3 s2 e2 => ?_⟩
    have f2 : F3 p = none := s2.nj p f1 (by rw [h1]; exact fun z => nomatch z)
    have h2 : H3 p = some (.lst vs) := s2.hs _ _ h1
    refine ⟨p, vs, k, j, rfl, dp_int e2, h2, by rw [da_len d1]; exact hj, ?_⟩
    exact a _ F3 _ σ n (s.ff.trans s2.ff) (((S.up s).up s2).chg hi rfl e1 f2 (by rw [h2]; exact fun z => nomatch z) ⟨p, _, rfl, f2, upd_same, da_set (dp_up s2.ff _ _ e) j (da_up s2.ff _ _ d1)⟩ rfl rfl)
/-- xs.reverse() -/
theorem run_reverse {i : Nat} {b : Bool} (hi : δ[i]? = some (.own b ds)) (n : nx (δ.set i (.own b ds.reverse))) : Run K w (tDrop (tBM0 K "list" rReverse (tVar i))) δ nx rt bk ct := fun _ _ _ F H σ S D a _ _ _ => by
  obtain ⟨p, vs, e1, f1, h1, d1⟩ := S.own hi
  refine ⟨_, e1, .inl ⟨rfl, vs, .inl (.inl h1)⟩, p, vs, rfl, rfl, h1, ?_⟩
  exact a _ F _ σ n (Same.refl F) (S.chg hi rfl e1 f1 (by rw [h1]; exact fun z => nomatch z) ⟨p, _, rfl, f1, upd_same, da_rev d1⟩ rfl rfl)
/-- a, b = e1, e2 -/
theorem run_par {i j : Nat} {tz : TA} (h : EvA K w tz δ [x, y]) (n : nx ((δ.set i (.d x)).set j (.d y))) : Run K w (tPar i j tz) δ nx rt bk ct := fun _ _ _ F H σ S D a _ _ _ =>
  h _ _ _ _ _ _ S _ fun vs F2 H2 s e => by
    obtain ⟨v, u, rfl, r1, r2⟩ := da2 e
    exact ⟨v, u, rfl, a _ F2 H2 _ n s.ff (((S.up s).setD i r1).setD j r2)⟩
/-! ## targets -/
def TgD (K : PySem.W.Frag) (w : World) (g : TG) (is : List Nat) (δ : List Slot) (x : PD) (δ' : List Slot) : Prop :=
  ∀ F0 H0 m F H σ v, Sig K w F0 H0 m F H σ δ → Dp K F v x → ∀ Q : L2.St → Hp → Prop, (∀ σ', Sig K w F0 H0 m F H σ' δ' → σ'.length = σ.length → (∀ j, j ∉ is → σ'[j]? = σ[j]?) → Q σ' H) → g v σ H Q
theorem tg_name {i : Nat} : TgD K w (gName i) [i] δ x (δ.set i (.d x)) := fun _ _ _ F H σ v S e Q q =>
  q _ (S.setD i e) (List.length_set ..) fun j hj => List.getElem?_set_ne (fun z => hj (by rw [z]; exact List.mem_cons_self))
def TgsD (K : PySem.W.Frag) (w : World) (g : TGs) (is : List Nat) (δ : List Slot) (xs : List PD) (δ' : List Slot) : Prop :=
  ∀ F0 H0 m F H σ vs, Sig K w F0 H0 m F H σ δ → DpAll K F vs xs → ∀ Q : L2.St → Hp → Prop, (∀ σ', Sig K w F0 H0 m F H σ' δ' → σ'.length = σ.length → (∀ j, j ∉ is → σ'[j]? = σ[j]?) → Q σ' H) → g vs σ H Q
theorem tgs_nil : TgsD K w gNil [] δ [] δ := fun _ _ _ F H σ vs S e Q q => by
  cases e
  exact ⟨rfl, q σ S rfl fun _ _ => rfl⟩
theorem tgs_cons {gs : TGs} {i1 i2 : List Nat} {δ1 δ2 : List Slot} (h : TgD K w g i1 δ x δ1) (h2 : TgsD K w gs i2 δ1 ds δ2) : TgsD K w (gCons g gs) (i1 ++ i2) δ (x :: ds) δ2 := fun _ _ _ F H σ vs S e Q q => by
  cases e with
  | cons r t =>
    exact ⟨_, _, rfl, h _ _ _ _ _ _ _ S r _ fun σ1 S1 l1 k1 => h2 _ _ _ _ _ _ _ S1 t _ fun σ2 S2 l2 k2 => q σ2 S2 (l2.trans l1) fun j hj =>
      (k2 j fun z => hj (List.mem_append_right _ z)).trans (k1 j fun z => hj (List.mem_append_left _ z))⟩
theorem tg_tup {gs : TGs} {is : List Nat} {n : Nat} (h : TgsD K w gs is δ ds δ') (hn : ds.length = n := by rfl) : TgD K w (gTup K n gs) is δ (.tuple ds) δ' := fun _ _ _ F H σ v S e Q q => by
  obtain ⟨a, xs, rfl, hs, hd⟩ := dp_tuple e
  exact ⟨a, xs, rfl, sqt_up S.fh hs, (da_len hd).trans hn, h _ _ _ _ _ _ _ S hd Q q⟩
/-- a, b = e -/
theorem run_asgT {δ1 : List Slot} {is : List Nat} (h : EvD K w te δ x) (hg : TgD K w g is δ x δ1) (n : nx δ1) : Run K w (tAsg te g) δ nx rt bk ct := fun _ _ _ F H σ S D a _ _ _ =>
  h _ _ _ _ _ _ S _ fun v F2 H2 s e => hg _ _ _ _ _ _ _ (S.up s) e _ fun σ' S' _ _ => a δ1 F2 H2 σ' n s.ff S'
/-! ## what is walked -/
def Yl (K : PySem.W.Frag) (J : It) (F : Hp) (ds : List PD) : Prop := ∀ F' H', Same F F' → Same F' H' → ∀ i : Nat,
  (∀ d, ds[i]? = some d → J.go i H' ∧ ∀ x H'', J.yld i H' x H'' → ∃ F'', Stp m0 F' H' F'' H'' ∧ Dp K F'' x d) ∧ (ds.length ≤ i → J.stop i H')
def ItD (K : PySem.W.Frag) (w : World) (wi : TI) (δ : List Slot) (ds : List PD) : Prop := ∀ F0 H0 m F H σ, Sig K w F0 H0 m F H σ δ → ∀ R : It → Hp → Prop, (∀ J F2 H2, Stp m0 F H F2 H2 → Yl K J F2 ds → R J H2) → wi σ H R
theorem yl_list {F : Hp} {a : Addr} {xs : List V} (hs : SqL K F a xs) (hd : DpAll K F xs ds) : Yl K (Itl K a) F ds := fun F' H' f h i =>
  ⟨fun d e => by
    obtain ⟨v, g1, g2⟩ := da_get hd e
    refine ⟨⟨xs, v, h.seq (f.seq hs), g1⟩, fun x H'' y => ?_⟩
    obtain ⟨rfl, y2⟩ := y
    have q := y2 xs (h.seq (f.seq hs))
    rw [g1] at q
    cases q
    exact ⟨F', .refl h, dp_up f _ _ g2⟩, fun l => ⟨xs, h.seq (f.seq hs), by rw [da_len hd]; exact l⟩⟩
theorem yl_tup {F : Hp} {a : Addr} {xs : List V} (hs : SqT K F a xs) (hd : DpAll K F xs ds) : Yl K (Itt K a) F ds := fun F' H' f h i =>
  ⟨fun d e => by
    obtain ⟨v, g1, g2⟩ := da_get hd e
    refine ⟨⟨xs, v, sqt_up h (sqt_up f hs), g1⟩, fun x H'' y => ?_⟩
    obtain ⟨rfl, y2⟩ := y
    have q := y2 xs (sqt_up h (sqt_up f hs))
    rw [g1] at q
    cases q
    exact ⟨F', .refl h, dp_up f _ _ g2⟩, fun l => ⟨xs, sqt_up h (sqt_up f hs), by rw [da_len hd]; exact l⟩⟩
def rngD (lo : Int) (n : Nat) : List PD := (List.range n).map fun k : Nat => .int (lo + k)
theorem rng_len (lo : Int) (n : Nat) : (rngD lo n).length = n := by unfold rngD; rw [List.length_map, List.length_range]
theorem rng_at {lo : Int} {n i : Nat} {d : PD} (h : (rngD lo n)[i]? = some d) : i < n ∧ d = .int (lo + i) := by
  unfold rngD at h
  rw [List.getElem?_map] at h
  by_cases q : i < n
  · rw [List.getElem?_range q] at h
    cases h
    exact ⟨q, rfl⟩
  · rw [List.getElem?_eq_none (by rw [List.length_range]; omega)] at h
    cases h
theorem yl_rng {F : Hp} {lo : Int} {n : Nat} : Yl K (Itr lo n) F (rngD lo n) := fun F' H' f h i =>
  ⟨fun d e => by
    obtain ⟨l, rfl⟩ := rng_at e
    refine ⟨l, fun x H'' y => ?_⟩
    obtain ⟨rfl, rfl⟩ := y
    exact ⟨F', .refl h, .int _⟩, fun l => by rw [rng_len] at l; exact l⟩
theorem it_list (h : EvD K w te δ (.list ds)) : ItD K w (iList K te) δ ds := fun _ _ _ F H σ S R q =>
  h _ _ _ _ _ _ S _ fun v F2 H2 s e => by
    obtain ⟨a, xs, rfl, hs, hd⟩ := dp_list e
    exact ⟨a, rfl, ⟨xs, s.fh.seq hs⟩, q _ F2 H2 s (yl_list hs hd)⟩
theorem it_tup (h : EvD K w te δ (.tuple ds)) : ItD K w (iTup K te) δ ds := fun _ _ _ F H σ S R q =>
  h _ _ _ _ _ _ S _ fun v F2 H2 s e => by
    obtain ⟨a, xs, rfl, hs, hd⟩ := dp_tuple e
    exact ⟨a, rfl, ⟨xs, sqt_up s.fh hs⟩, q _ F2 H2 s (yl_tup hs hd)⟩
theorem it_rng1 {n : Int} (h : RdD K w te δ (.int n)) (h1 : -(2 ^ 62) ≤ n) (h2 : n < 2 ^ 62) : ItD K w (iRng1 (tCons te tNil)) δ (rngD 0 n.toNat) := fun _ _ _ F H σ S R q =>
  h _ _ _ _ _ _ S _ fun v F2 H2 s e => ⟨n, by rw [dp_int e], h1, h2, q _ F2 H2 s yl_rng⟩
theorem it_rng2 {lo hi : Int} (ha : RdD K w ta δ (.int lo)) (hb : RdD K w tb δ (.int hi)) (h : -(2 ^ 62) ≤ lo ∧ lo < 2 ^ 62 ∧ -(2 ^ 62) ≤ hi ∧ hi < 2 ^ 62) : ItD K w (iRng2 (tCons ta (tCons tb tNil))) δ (rngD lo (hi - lo).toNat) := fun _ _ _ F H σ S R q =>
  ha _ _ _ _ _ _ S _ fun v F2 H2 s e => hb _ _ _ _ _ _ (S.up s) _ fun u F3 H3 s2 e2 => ⟨lo, hi, by rw [dp_int e, dp_int e2], h, q _ F3 H3 (s.trans s2) yl_rng⟩
/-! ## loops -/
theorem run_for (hi : ItD K w wi δ ds) (Inv : Nat → PN) (h0 : Inv 0 δ)
    (hs : ∀ (k : Nat) (x : PD) (δ' : List Slot), ds[k]? = some x → Inv k δ' → ∃ is δ1, TgD K w g is δ' x δ1 ∧ Run K w t δ1 (Inv (k + 1)) rt nx (Inv (k + 1)))
    (he : ∀ δ', Inv ds.length δ' → nx δ') : Run K w (tFor wi g t) δ nx rt bk ct := fun F0 H0 m F H σ S D a r c e =>
  hi _ _ _ _ _ _ S _ fun J F2 H2 s Y => by
    refine ⟨fun i n σ' H' => n = ds.length - i ∧ i ≤ ds.length ∧ ∃ δ' F', Inv i δ' ∧ Same F2 F' ∧ Sig K w F0 H0 m F' H' σ' δ', ⟨ds.length, by omega, Nat.zero_le _, δ, F2, h0, Same.refl F2, S.up s⟩, ?_⟩
    rintro i n σ' H' ⟨rfl, hi', δ', F', iv, f, S'⟩
    have y := Y F' H' f S'.fh i
    by_cases q : i < ds.length
    · refine .inr ?_
      have ex : ds[i]? = some ds[i] := List.getElem?_eq_getElem q
      obtain ⟨g1, g2⟩ := y.1 _ ex
      refine ⟨g1, fun σ2 H3 => ∃ δ2 F3, Inv (i + 1) δ2 ∧ Same F2 F3 ∧ Sig K w F0 H0 m F3 H3 σ2 δ2, fun σ2 H3 ⟨δ2, F3, b1, b2, b3⟩ => ⟨ds.length - (i + 1), by omega, rfl, q, δ2, F3, b1, b2, b3⟩, fun x H3 yy => ?_⟩
      obtain ⟨F3, s3, e3⟩ := g2 x H3 yy
      obtain ⟨is, δ1, tg, rn⟩ := hs i _ δ' ex iv
      refine tg _ _ _ _ _ _ _ (S'.up s3) e3 _ fun σ2 S2 _ _ => ?_
      exact rn _ _ _ _ _ _ S2 _ (fun δ2 F4 H4 σ3 p f4 S4 => ⟨δ2, F4, p, (f.trans s3.ff).trans f4, S4⟩) (fun δ2 z v F4 H4 σ3 p f4 S4 R => r δ2 z v F4 H4 σ3 p (((s.ff.trans f).trans s3.ff).trans f4) S4 R)
        (fun δ2 F4 H4 σ3 p f4 S4 => a δ2 F4 H4 σ3 p (((s.ff.trans f).trans s3.ff).trans f4) S4) (fun δ2 F4 H4 σ3 p f4 S4 => ⟨δ2, F4, p, (f.trans s3.ff).trans f4, S4⟩)
    · refine .inl ⟨y.2 (by omega), a δ' F' H' σ' (he δ' ?_) (s.ff.trans f) S'⟩
      have z : i = ds.length := by omega
      rw [← z]
      exact iv
theorem run_while {tc : TT} (Inv : Nat → PN) (h0 : ∃ n, Inv n δ)
    (hs : ∀ n δ', Inv n δ' → ∃ b, TsB K w tc δ' b ∧ (b = true → Run K w t δ' (fun δ2 => ∃ n', n' < n ∧ Inv n' δ2) rt nx (fun δ2 => ∃ n', n' < n ∧ Inv n' δ2)) ∧ (b = false → nx δ')) :
    Run K w (tWhile tc t) δ nx rt bk ct := fun F0 H0 m F H σ S D a r c e => by
  obtain ⟨n0, i0⟩ := h0
  refine ⟨fun n σ' H' => ∃ δ' F', Inv n δ' ∧ Same F F' ∧ Sig K w F0 H0 m F' H' σ' δ', ⟨n0, δ, F, i0, Same.refl F, S⟩, ?_⟩
  rintro n σ' H' ⟨δ', F', iv, f, S'⟩
  obtain ⟨b, tb, h1, h2⟩ := hs n δ' iv
  refine tb _ _ _ _ _ _ S' _ fun F2 H2 s => ?_
  cases b with
  | true =>
    rw [if_pos rfl]
    refine ⟨fun σ2 H3 => ∃ n', n' < n ∧ ∃ δ2 F3, Inv n' δ2 ∧ Same F F3 ∧ Sig K w F0 H0 m F3 H3 σ2 δ2, fun σ2 H3 ⟨n', l, q⟩ => ⟨n', l, q⟩, ?_⟩
    exact h1 rfl _ _ _ _ _ _ (S'.up s) _ (fun δ2 F4 H4 σ3 ⟨n', l, p⟩ f4 S4 => ⟨n', l, δ2, F4, p, (f.trans s.ff).trans f4, S4⟩) (fun δ2 z v F4 H4 σ3 p f4 S4 R => r δ2 z v F4 H4 σ3 p ((f.trans s.ff).trans f4) S4 R)
      (fun δ2 F4 H4 σ3 p f4 S4 => a δ2 F4 H4 σ3 p ((f.trans s.ff).trans f4) S4) (fun δ2 F4 H4 σ3 ⟨n', l, p⟩ f4 S4 => ⟨n', l, δ2, F4, p, (f.trans s.ff).trans f4, S4⟩)
  | false =>
    rw [if_neg Bool.false_ne_true]
    exact a δ' F2 H2 σ' (h2 rfl) (f.trans s.ff) (S'.up s)
/-! ## comprehensions -/
theorem wipe_get (s : L2.St) : ∀ (vs : List Nat) (j : Nat), (L2.wipe s vs)[j]? = if j ∈ vs ∧ j < s.length then some none else s[j]?
  | [], j => by
    rw [if_neg (fun z => by cases z.1)]
    rfl
  | v :: vs, j => by
    unfold L2.wipe
    by_cases h : v = j
    · subst h
      by_cases q : v < s.length
      · rw [List.getElem?_set_self (by rw [L2.wipe_length]; exact q), if_pos ⟨List.mem_cons_self, q⟩]
      · rw [List.getElem?_eq_none (by rw [List.length_set, L2.wipe_length]; omega), if_neg (fun z => q z.2), List.getElem?_eq_none (by omega)]
    · rw [List.getElem?_set_ne h, wipe_get s vs j]
      by_cases q : j ∈ vs ∧ j < s.length
      · rw [if_pos q, if_pos ⟨List.mem_cons_of_mem _ q.1, q.2⟩]
      · rw [if_neg q, if_neg fun z => q ⟨by
          rcases List.mem_cons.mp z.1 with e | e
          · exact absurd e.symm h
          · exact e, z.2⟩]
theorem wipe_back {s s' : L2.St} {vs is : List Nat} (hl : s'.length = (L2.wipe s vs).length) (hk : ∀ j, j ∉ is → s'[j]? = (L2.wipe s vs)[j]?) (hi : ∀ j ∈ is, j ∈ vs) : L2.wipe s' vs = L2.wipe s vs := by
  rw [L2.wipe_length] at hl
  refine List.ext_getElem? fun j => ?_
  rw [wipe_get, wipe_get]
  by_cases q : j ∈ vs ∧ j < s.length
  · rw [if_pos q, if_pos ⟨q.1, by rw [hl]; exact q.2⟩]
  · rw [if_neg q, if_neg (fun z => q ⟨z.1, by rw [← hl]; exact z.2⟩)]
    by_cases z : j ∈ vs
    · have l : ¬ j < s.length := fun y => q ⟨z, y⟩
      rw [List.getElem?_eq_none (by omega), List.getElem?_eq_none (by omega)]
    · rw [hk j (fun y => z (hi j y)), wipe_get, if_neg q]
theorem ts_yes : TsB K w tYes δ true := fun _ _ _ F H σ S Q q => q F H (.refl S.fh)
theorem take_more {α : Type} {l : List α} {i : Nat} {x : α} (h : l[i]? = some x) : l.take (i + 1) = l.take i ++ [x] := by rw [List.take_add_one, h]; rfl
theorem eo_lc {vs : List Nat} (hi : ItD K w wi δ ds) (f : PD → Option PD) (hl : ds.length ≤ 100000)
    (hs : ∀ (k : Nat) (x : PD), ds[k]? = some x → ∃ is δ1 b, (∀ j ∈ is, j ∈ vs) ∧ TgD K w g is (wipeD δ vs) x δ1 ∧ TsB K w tt δ1 b ∧ (b = true → ∃ y, EvD K w te δ1 y ∧ f x = some y) ∧ (b = false → f x = none)) :
    EvO K w (tLc wi g tt te vs) δ (ds.filterMap f) := fun F0 H0 m F H σ S Q q =>
  hi _ _ _ _ _ _ S _ fun J F2 H2 s Y => fun D nD => by
    have f2 : F2 D = none := s.fh.free nD
    refine ⟨fun i n H' => n = ds.length - i ∧ i ≤ ds.length ∧ ∃ F' acc, Stp m0 F2 H2 F' H' ∧ F' D = none ∧ H' D = some (.lst acc) ∧ DpAll K F' acc ((ds.take i).filterMap f), ⟨ds.length, by omega, Nat.zero_le _, F2, [], .mk1 s.fh nD, f2, upd_same, .nil⟩, ?_⟩
    rintro i n H' ⟨rfl, hi', F', acc, st, fD, hD, hd⟩
    have y := Y F' H' st.ff st.fh i
    by_cases z : i < ds.length
    · refine .inr ?_
      have ex : ds[i]? = some ds[i] := List.getElem?_eq_getElem z
      obtain ⟨g1, g2⟩ := y.1 _ ex
      refine ⟨g1, fun H' => i + 1 ≤ ds.length ∧ ∃ F' acc, Stp m0 F2 H2 F' H' ∧ F' D = none ∧ H' D = some (.lst acc) ∧ DpAll K F' acc ((ds.take (i + 1)).filterMap f), fun H' h' => ⟨ds.length - (i + 1), by omega, rfl, h'⟩, fun x H3 yy => ?_⟩
      obtain ⟨F3, s3, e3⟩ := g2 x H3 yy
      obtain ⟨is, δ1, b, iv, tg, tb, h1, h2⟩ := hs i _ ex
      refine tg _ _ _ _ _ _ _ ((((S.up s).up st).up s3).wipe vs) e3 _ fun σ2 S2 l2 k2 => ⟨wipe_back l2 k2 iv, ?_⟩
      refine tb _ _ _ _ _ _ S2 _ fun F4 H4 s4 => ?_
      have D3 : H3 D = some (.lst acc) := s3.hs _ _ hD
      have n3 : F3 D = none := s3.nj D fD (by rw [hD]; exact fun z => nomatch z)
      cases b with
      | true =>
        rw [if_pos rfl]
        obtain ⟨y1, ev, fy⟩ := h1 rfl
        refine ev _ _ _ _ _ _ (S2.up s4) _ fun v F5 H5 s5 e5 => ?_
        have D5 : H5 D = some (.lst acc) := s5.hs _ _ (s4.hs _ _ D3)
        have n5 : F5 D = none := s5.nj D (s4.nj D n3 (by rw [D3]; exact fun z => nomatch z)) (by rw [s4.hs _ _ D3]; exact fun z => nomatch z)
        have stA : Stp m0 F2 H2 F5 H5 := ((st.trans s3).trans s4).trans s5
        refine ⟨acc, D5, lt_line ?_, z, F5, acc ++ [v], ⟨stA.ff, fun b o eb => ?_, fun a o _ ea => ?_, stA.nj, fun a na => up_some (stA.hn a na)⟩, n5, upd_same, ?_⟩
        · rw [da_len hd]
          have := List.length_filterMap_le f (ds.take i)
          rw [List.length_take] at this
          omega
        · rw [upd_ne (ne_of_none eb n5)]
          exact stA.fh b o eb
        · rw [upd_ne (ne_of_none ea nD)]
          exact stA.hs a o ea
        · rw [take_more ex, List.filterMap_append]
          refine da_app (da_up ((s3.ff.trans s4.ff).trans s5.ff) _ _ hd) ?_
          rw [List.filterMap_cons, fy]
          exact .cons e5 .nil
      | false =>
        rw [if_neg Bool.false_ne_true]
        refine ⟨z, F4, acc, (st.trans s3).trans s4, s4.nj D n3 (by rw [D3]; exact fun z => nomatch z), s4.hs _ _ D3, ?_⟩
        rw [take_more ex, List.filterMap_append, List.filterMap_cons, h2 rfl]
        rw [List.filterMap_nil, List.append_nil]
        exact da_up (s3.ff.trans s4.ff) _ _ hd
    · refine .inl ⟨y.2 (by omega), ?_⟩
      rw [List.take_of_length_le (by omega)] at hd
      exact q D acc F' H' (s.trans st) fD (by
        cases e1 : H D with
        | none => rfl
        | some o => rw [s.hs _ _ e1] at nD; cases nD) hD hd
/-- [e for x in xs] -/
theorem eo_map {vs : List Nat} (hi : ItD K w wi δ ds) (f : PD → PD) (hl : ds.length ≤ 100000)
    (hs : ∀ (k : Nat) (x : PD), ds[k]? = some x → ∃ is δ1, (∀ j ∈ is, j ∈ vs) ∧ TgD K w g is (wipeD δ vs) x δ1 ∧ EvD K w te δ1 (f x)) :
    EvO K w (tLc wi g tYes te vs) δ (ds.map f) := by
  have h := eo_lc (tt := tYes) (vs := vs) (te := te) (g := g) hi (fun x => some (f x)) hl fun k x e => by
    obtain ⟨is, δ1, h1, h2, h3⟩ := hs k x e
    exact ⟨is, δ1, true, h1, h2, ts_yes, fun _ => ⟨_, h3, rfl⟩, fun z => nomatch z⟩
  have e : (ds.filterMap fun x => some (f x)) = ds.map f := by rw [List.filterMap_eq_map']
  rw [e] at h
  exact h
/-! ## defs -/
def spS (K : PySem.W.Frag) (n : Nat) (R : List PD → PD → Prop) : Sp := fun vs H Q _ => ∃ F ds d, Same F H ∧ DpAll K F vs ds ∧ ds.length = n ∧ R ds d ∧ ∀ v F2 H2, Stp m0 F H F2 H2 → Dp K F2 v d → Q v H2
def spO (K : PySem.W.Frag) (n : Nat) (R : List PD → List PD → Prop) : Sp := fun vs H Q _ => ∃ F ds es, Same F H ∧ DpAll K F vs ds ∧ ds.length = n ∧ R ds es ∧
  ∀ p xs F2 H2, Stp m0 F H F2 H2 → F2 p = none → H p = none → H2 p = some (.lst xs) → DpAll K F2 xs es → Q (.ref p) H2
theorem len_S {n : Nat} {R : List PD → PD → Prop} : ∀ vs H Q E, spS K n R vs H Q E → vs.length = n := fun vs H Q E ⟨_, _, _, _, h, l, _⟩ => (da_len h).trans l
theorem len_O {n : Nat} {R : List PD → List PD → Prop} : ∀ vs H Q E, spO K n R vs H Q E → vs.length = n := fun vs H Q E ⟨_, _, _, _, h, l, _⟩ => (da_len h).trans l
def startD (n : Nat) (ds : List PD) : List Slot := ds.map .d ++ List.replicate (n - ds.length) .emp
theorem start_sig {N : List Str} {F H : Hp} {vs : List V} (h : DpAll K F vs ds) (s : Same F H) : Sig K w F H m0 F H (L2.start N vs) (startD N.length ds) := by
  have l := da_len h
  have slot : ∀ (i : Nat) (s : Slot), (startD N.length ds)[i]? = some s → (∃ d, ds[i]? = some d ∧ s = .d d) ∨ s = .emp := fun i s e => by
    unfold startD at e
    by_cases q : i < ds.length
    · rw [List.getElem?_append_left (by rw [List.length_map]; exact q), List.getElem?_map] at e
      rw [List.getElem?_eq_getElem q] at e ⊢
      exact .inl ⟨_, rfl, (Option.some.inj e).symm⟩
    · rw [List.getElem?_append_right (by rw [List.length_map]; omega)] at e
      exact .inr (List.eq_of_mem_replicate (List.mem_of_getElem? e))
  refine ⟨.refl s, ?_, fun i s e => ?_, fun i j si sj v _ ei _ mi => ?_, fun i s p e ms => ?_⟩
  · unfold L2.start startD
    rw [List.length_append, List.length_append, List.length_map, List.length_map, List.length_replicate, List.length_replicate, l]
  · rcases slot i s e with ⟨d, e1, rfl⟩ | rfl
    · obtain ⟨v, h1, h2⟩ := da_get h e1
      refine ⟨v, ?_, h2⟩
      unfold L2.start
      rw [List.getElem?_append_left (by rw [List.length_map]; exact (List.getElem?_eq_some_iff.mp h1).1), List.getElem?_map, h1]
      rfl
    · exact trivial
  · rcases slot i si ei with ⟨d, e1, rfl⟩ | rfl <;> cases mi
  · rcases slot i s e with ⟨d, e1, rfl⟩ | rfl <;> cases ms
theorem run_spS {N : List Str} {F H : Hp} {vs : List V} {Q : VK} (s : Same F H) (h : DpAll K F vs ds) (k : ∀ v F2 H2, Stp m0 F H F2 H2 → Dp K F2 v d → Q v H2)
    (r : Run K w t (startD N.length ds) (fun _ => d = .none) (fun _ r => r = .d d ∨ ∃ xs, r = .own xs ∧ d = .list xs) no1 no1) : t { nx := fun _ H' => Q .non H', rt := Q } (L2.start N vs) H :=
  r F H m0 F H _ (start_sig h s) _ (fun δ' F2 H2 σ2 e _ S => k _ F2 H2 S.st (by rw [e]; exact .non)) (fun δ' r v F2 H2 σ2 e f S R => by
    rcases e with rfl | ⟨xs, rfl, rfl⟩
    · exact k v F2 H2 S.st R
    · obtain ⟨p, vs, rfl, f1, h0, h1, d1⟩ := R
      refine k _ (upd F2 p (.lst vs)) H2 ⟨S.st.ff.trans (same_new f1), fun b o eb => ?_, S.st.hh, fun b eb nb => ?_, S.st.hn⟩ (.lst (.inl (.inl upd_same)) (da_up (same_new f1) _ _ d1))
      · by_cases z : b = p
        · subst z; rw [upd_same] at eb; cases eb; exact h1
        · rw [upd_ne z] at eb; exact S.fh b o eb
      · rw [upd_ne (fun z => nb (by rw [z]; exact h0))]
        exact S.st.nj b eb nb) (fun _ _ _ _ z => z.elim) (fun _ _ _ _ z => z.elim)
theorem run_spO {N : List Str} {F H : Hp} {vs : List V} {Q : VK} (s : Same F H) (h : DpAll K F vs ds) (k : ∀ p xs F2 H2, Stp m0 F H F2 H2 → F2 p = none → H p = none → H2 p = some (.lst xs) → DpAll K F2 xs es → Q (.ref p) H2)
    (r : Run K w t (startD N.length ds) no1 (fun _ r => r = .own es) no1 no1) : t { nx := fun _ H' => Q .non H', rt := Q } (L2.start N vs) H :=
  r F H m0 F H _ (start_sig h s) _ (fun _ _ _ _ z => z.elim) (fun δ' r v F2 H2 σ2 e f S R => by
    subst e
    obtain ⟨p, vs, rfl, f1, h0, h1, d1⟩ := R
    exact k p vs F2 H2 S.st f1 h0 h1 d1) (fun _ _ _ _ z => z.elim) (fun _ _ _ _ z => z.elim)
/-! calls -/
variable {n : Nat} {R : List PD → PD → Prop} {RO : List PD → List PD → Prop} {E : XK} {tz : TA}
theorem ev_call (h : EvA K w tz δ ds) (r : R ds d) (hl : ds.length = n := by rfl) : EvD K w (tCall (spS K n R) [] E tz) δ d := fun _ _ _ F H _ S Q q =>
  h _ _ _ _ _ _ S _ fun vs F2 H2 s e => ⟨F2, ds, d, s.fh, by rw [List.append_nil]; exact e, hl, r, fun v F3 H3 s3 e3 => q v F3 H3 (s.trans s3) e3⟩
theorem ev_callR (h : RdA K w tz δ ds) (r : R ds d) (sc : (scV d).isSome = true := by rfl) (hl : ds.length = n := by rfl) : EvD K w (tCall (spS K n R) [] E tz) δ d := fun _ _ _ F H _ S Q q =>
  h _ _ _ _ _ _ S _ fun vs F2 H2 s e => ⟨H2, ds, d, Same.refl H2, by rw [List.append_nil]; exact e, hl, r, fun v F3 H3 s3 e3 => q v F2 H3 (s.trans (.same s.fh s3.hs)) (dp_sc e3 sc)⟩
theorem eo_call (h : EvA K w tz δ ds) (r : RO ds es) (hl : ds.length = n := by rfl) : EvO K w (tCall (spO K n RO) [] E tz) δ es := fun _ _ _ F H _ S Q q =>
  h _ _ _ _ _ _ S _ fun vs F2 H2 s e => ⟨F2, ds, es, s.fh, by rw [List.append_nil]; exact e, hl, r, fun p xs F3 H3 s3 f n e3 d3 => q p xs F3 H3 (s.trans s3) f (by
    cases e1 : H p with
    | none => rfl
    | some o => rw [s.hs _ _ e1] at n; cases n) e3 d3⟩
theorem eo_callR (h : RdA K w tz δ ds) (r : RO ds es) (sc : ∀ d ∈ es, (scV d).isSome = true) (hl : ds.length = n := by rfl) : EvO K w (tCall (spO K n RO) [] E tz) δ es := fun _ _ _ F H _ S Q q =>
  h _ _ _ _ _ _ S _ fun vs F2 H2 s e => ⟨H2, ds, es, Same.refl H2, by rw [List.append_nil]; exact e, hl, r, fun p xs F3 H3 s3 f n e3 d3 => q p xs F2 H3 (s.trans (.same s.fh s3.hs)) (s.fh.free n) (by
    cases e1 : H p with
    | none => rfl
    | some o => rw [s.hs _ _ e1] at n; cases n) e3 (da_sc d3 sc)⟩
end
end MU

namespace MU
open PySem PySem.Spec L2
open PyProof.Rows (list_addW pow_int)
open PySem.W (codeIn)
/-! ## further rules of operators -/
def rCatL (K : PySem.W.Frag) : R2 := fun x y H Q => ∃ l b xs zs, x = .ref l ∧ y = .ref b ∧ SqL K H l xs ∧ SqL K H b zs ∧ xs.length + zs.length ≤ sizeLine ∧ ∀ p, H p = none → Q (.ref p) (upd H p (.lst (xs ++ zs)))
section
variable {X : Cx}
theorem op_catL : OpR X (binaryOp .Add) (rCatL X.K) := by
  intro pins s σ H x y v u Q I rx ry h
  obtain ⟨l, b, xs, zs, e1, e2, hs, hs2, hz, q⟩ := h
  subst e1; subst e2
  cases rx
  cases ry
  obtain ⟨is1, r1, ⟨⟨c1, d1, a1, t1⟩, n1, o1, q1, k1, w1⟩, _⟩ := I.list hs
  obtain ⟨is2, r2, ⟨⟨c2, d2, a2, t2⟩, n2, o2, q2, k2, w2⟩, _⟩ := I.list hs2
  simp only at q1 w1 q2 w2
  subst q1; subst w1; subst q2; subst w2
  have e : is1.toArray ++ is2.toArray = (is1 ++ is2).toArray := by simp
  have sz : is1.toArray.size + is2.toArray.size ≤ sizeLine := by rw [List.size_toArray, List.size_toArray, ← r1.length, ← r2.length]; exact hz
  refine concat_meets ⟨_, o1, rfl⟩ ⟨_, o2, rfl⟩ noFill_list_add seq_list_add PySem.F.slot_list_add PySem.F.entry_list_add (PySem.F.args_list_add_2 _ _) (list_addW l b is1.toArray is2.toArray n1 n2 d1 d2 t1 t2 sz) ⟨o1, o2, ?_⟩
  rw [e]
  exact ⟨.ref _, _, I.lnew (t' := s.toks) (r1.append r2) (by rw [List.length_append]; exact hz), rfl, q _ I.fresh⟩
/-- a power of great ints -/
def CPowW (i j : Int) : Prop := 0 ≤ j ∧ (Builtin.Int.intBits i : Int) * j ≤ 2 ^ 27
theorem op_powW : OpR X (binaryOp .Pow) (rI CPowW fun i j => .int (i ^ j.toNat)) := opI fun _ _ _ _ _ _ _ hc q => pow_int hc.1 hc.2 q
end
/-! ## {e} -/
def tSet1 (w : World) (te : TE) : TE := fun σ H Q => ∀ p, H p = none → te σ (upd H p (SetO w p (fun _ => false) 0)) fun x H1 => ∃ i, x = .int i ∧ H1 p = some (SetO w p (fun _ => false) 0) ∧ Q (.ref p) (upd H1 p (SetO w p (fun j => false || decide (j = i)) 1))
section
variable {X : Cx}
theorem newset_led {P : Program} {w : World} {A : Around} {E : Value → Shared → Prop} {s : Shared} {Q : Value → Shared → Prop}
    (h : ∀ o : Obj, SetR w (s.heap.push o) s.heap.objs.size (fun _ => false) 0 → Q (.ref s.heap.objs.size) { s with heap := s.heap.push o }) : wpAny (model P w) A (newSet (.type "set")) Q E s := by
  unfold newSet setsByText
  refine wpAny_bind (wpAny_bind (wpAny_askSetting (wpAny_pure ?_)))
  simp only [newObj]
  exact wpAny_bind (wpAny_alloc (wpAny_pure (h _ (setR_fresh w))))
theorem setadd_led {P : Program} {w : World} {A : Around} {E : Value → Shared → Prop} {s : Shared} {a : Addr} {S : Int → Bool} {n : Nat} {k : Int} {tk : Tok} {Q : Bool → Shared → Prop} (R : SetR w s.heap a S n) (room : n + 1 < scanBound)
    (hQ : ∀ h', Heap.SameBut a s.heap h' → SetR w h' a (fun j => S j || decide (j = k)) (if S k = true then n else n + 1) → Q (!S k) { s with heap := h', toks := s.toks + 1 }) : wpAny (model P w) A (setAdd a (.int k tk)) Q E s := by
  unfold setAdd
  refine wpAny_holding (wpAny_bind ((intKind P w).pyHash (intKind_is P w k tk) ?_))
  exact setR_add_hashed (s := { s with toks := s.toks + 1 }) R room hQ
theorem pe_set1 {e : Expr} {te : TE} {k : Nat} {pos : Pos} (hc : PySem.W.kdsCode X.K X.env.code = true) (he : PE X e te) (hp : [e].all PySem.W.kdsPlain = true := by rfl) (hr : displayRoad k [e] = .oneByOne := by rfl) : PE X (.Set [e] k pos) (tSet1 X.w te) := by
  refine ⟨fun pins s σ H Q I h => ?_⟩
  rw [arm_eval_Set]
  refine wpAny_bind (wpAny_standAt (wpAny_bind (PySem.W.kds_main I.kIn hc fun b => ?_)))
  have e0 : evalEach [e] X.env = [eval e X.env] := by
    rw [arm_evalEach_cons]
    rfl
  rw [PySem.W.kds_star [e] hp, List.map_map, hr, e0]
  show wpAny _ _ (setDisplay .oneByOne b [(false, do let v ← eval e X.env; standAt pos; pure v)]) _ _ _
  unfold setDisplay
  try dsimp only
  rw [if_neg (by decide)]
  refine wpAny_bind (newset_led fun o R => ?_)
  dsimp only
  have I1 := I.laid (t' := s.toks) (fun b u eb => Heap.get?_push_of_some o eb) (Nat.le_refl _) (setO_new (P := X.prog) (H := upd H s.heap.objs.size (SetO X.w s.heap.objs.size (fun _ => false) 0)) R)
  have h1 := h _ (I.hok.fresh (Nat.le_refl _))
  refine wpAny_bind (wpAny_holding (wpAny_bind ?_))
  show wpAny _ _ (evalAll [do let v ← eval e X.env; standAt pos; pure v]) _ _ _
  show wpAny _ _ ((eval e X.env >>= fun v => standAt pos >>= fun _ => pure v) >>= fun v => holding [v] (evalAll []) >>= fun r => pure (v :: r)) _ _ _
  refine wpAny_bind (wpAny_bind (thn (he.run pins _ σ _ _ I1 h1) fun u s1 h2 => ?_))
  obtain ⟨x, H1, I2, rx, i, ex, hs, q⟩ := h2
  subst ex
  obtain ⟨tk, rfl⟩ := rx
  refine wpAny_bind (wpAny_standAt (wpAny_pure ?_))
  refine wpAny_bind (wpAny_holding (wpAny_pure (wpAny_pure ?_)))
  refine wpAny_bind (wpAny_holding ?_)
  rw [List.forIn_cons]
  refine wpAny_bind (wpAny_bind (wpAny_bind (setadd_led (setO_get I2 hs) (by decide) fun h' sb R2 => wpAny_pure ?_)))
  dsimp only
  rw [List.forIn_nil]
  refine wpAny_pure ?_
  rw [if_neg (by decide)]
  have he2 : ∃ u, h'.get? s.heap.objs.size = some u := by
    have ⟨o, _, _, _, ho, _⟩ := R2
    exact ⟨o, ho⟩
  have I3 := I2.write (e := s.heap.objs.size) (t' := s1.toks + 1) (by rw [hs]; trivial) (.inl rfl) (fun b u hb hu => (sb.2 b hb).trans hu) he2 (setO_new (P := X.prog) (H := upd H1 s.heap.objs.size (SetO X.w s.heap.objs.size (fun j => false || decide (j = i)) 1)) R2)
  refine wpAny_pure (wpAny_bind ?_)
  show wpAny _ _ (forIn (([] : List (Bool × Sem Value))) PUnit.unit _) _ _ _
  rw [List.forIn_nil]
  exact wpAny_pure (wpAny_pure (wpAny_pure ⟨.ref _, _, I3, rfl, q⟩))
end
/-! a def's body that knows its code object -/
section
variable {P : Program} {w : World} {K : PySem.W.Frag} {mg : Str → Option Value} {base : Heap}
theorem kds_of_code {cd : Value} {q : Str} (h : PySem.W.codeIn K cd q = true) : PySem.W.kdsCode K cd = true := by
  unfold PySem.W.codeIn at h
  unfold PySem.W.kdsCode
  split at h
  · split at h
    · rename_i ho
      simp only [ho]
    · cases h
  · cases h
theorem fun_okC {x qual : Str} {st : Stmt} {f : Addr} {fd : FuncData} {N ps : List Str} {k : Nat} {sp : Sp} (F : Fun K x qual st f fd) (S : FnScope N ps (defScope st)) (len : ∀ vs H Q E, sp vs H Q E → vs.length = ps.length)
    (hb : ∀ (cdv : Value), PySem.W.codeIn K cdv qual = true → ∀ (A : Around) (outer : List Env) (s : Shared) (H : Hp) (vs : List V) (Q : VK) (E : XK), Room k (A.deeper (PyProof.Rows.envOfC qual (defScope st) s.heap.objs.size f cdv)) → sp vs H Q E →
      ∃ t, PSs (cxOf CX0 P w K mg base N qual (defScope st) f cdv A outer s H E).nox (defBody st) t ∧ t { nx := fun _ H' => Q .non H', rt := Q } (L2.start N vs) H) : FnOk P w K mg base CX0 (k + 1) f fd ps sp := by
  obtain ⟨_, _, _, _, _, _, cdv, _, _, z, lk, hcd⟩ := F.ex
  subst z
  refine fn_of lk hcd S len fun A outer s H vs Q E hr hsp => ?_
  have ⟨t, h, q⟩ := hb cdv hcd A outer s H vs Q E hr hsp
  exact ⟨t, h.nox, q⟩
end
theorem nF {p : Prop} (h : false = true) : p := by cases h
theorem nT {p : Prop} (h : true = false) : p := by cases h
/-! ## the same, by data -/
section
variable {K : PySem.W.Frag} {w : World} {δ δ' : List Slot} {te ta tb : TE} {tt : TT} {t u : TS} {d x y : PD} {ds es xs ys : List PD} {nx nx' mid bk ct : PN} {rt : List Slot → Ret → Prop} {g : TG} {wi : TI}
/-- a list to be read whose items may be kept -/
def SqD (K : PySem.W.Frag) (w : World) (te : TE) (δ : List Slot) (ds : List PD) : Prop := ∀ F0 H0 m F H σ, Sig K w F0 H0 m F H σ δ → ∀ Q : VK, (∀ a vs F2 H2, Stp m0 F H F2 H2 → SqL K H2 a vs → DpAll K F2 vs ds → Q (.ref a) H2) → te σ H Q
theorem EvD.sq (h : EvD K w te δ (.list ds)) : SqD K w te δ ds := fun _ _ _ F H σ S Q q => h _ _ _ _ _ _ S _ fun v F2 H2 s e => by
  obtain ⟨a, vs, rfl, hs, hd⟩ := dp_list e
  exact q a vs F2 H2 s (s.fh.seq hs) hd
theorem EvO.sq (h : EvO K w te δ ds) : SqD K w te δ ds := fun _ _ _ F H σ S Q q => h _ _ _ _ _ _ S _ fun p vs F2 H2 s f n e a => q p vs F2 H2 s (.inl (.inl e)) a
theorem sq_own {i : Nat} {b : Bool} (hi : δ[i]? = some (.own b ds)) : SqD K w (tVar i) δ ds := fun _ _ _ F H σ S Q q => by
  obtain ⟨p, vs, e1, f1, h1, d1⟩ := S.own hi
  exact ⟨_, e1, q p vs F H (.refl S.fh) (.inl (.inl h1)) d1⟩
theorem RdD.sq (h : RdD K w te δ (.list ds)) (sc : ∀ d ∈ ds, (scV d).isSome = true) : SqD K w te δ ds := fun _ _ _ F H σ S Q q => h _ _ _ _ _ _ S _ fun v F2 H2 s e => by
  obtain ⟨a, vs, rfl, hs, hd⟩ := dp_list e
  exact q a vs F2 H2 s hs (da_sc hd sc)
theorem SqD.rd (h : SqD K w te δ ds) : RdD K w te δ (.list ds) := fun _ _ _ F H σ S Q q => h _ _ _ _ _ _ S _ fun a vs F2 H2 s hs hd => q _ F2 H2 s (.lst hs (da_up s.fh _ _ hd))
instance : CoeOut (EvD K w te δ d) (RdD K w te δ d) := ⟨EvD.rd⟩
instance : CoeOut (EvO K w te δ ds) (EvD K w te δ (.list ds)) := ⟨EvO.ev⟩
instance : CoeOut (EvO K w te δ ds) (RdD K w te δ (.list ds)) := ⟨EvO.rd⟩
instance : CoeOut (EvO K w te δ ds) (SqD K w te δ ds) := ⟨EvO.sq⟩
instance : CoeOut (EvD K w te δ (.list ds)) (SqD K w te δ ds) := ⟨EvD.sq⟩
theorem rd_var {i : Nat} (h : δ[i]? = some (.d d)) : RdD K w (tVar i) δ d := (ev_var h).rd
theorem rd_int {i : Int} : RdD K w (tC (.int i)) δ (.int i) := ev_int.rd
theorem rd_non : RdD K w (tC .non) δ .none := ev_non.rd
theorem rd_bl {b : Bool} : RdD K w (tC (.bl b)) δ (.bool b) := ev_bl.rd
theorem rd_str {z : Str} : RdD K w (tC (.str z)) δ (.str z) := ev_str.rd
theorem run_no {b : Bool} (h : TsB K w tt δ b) (e : b = false) (h2 : Run K w u δ nx rt bk ct) : Run K w (tIfS tt t u) δ nx rt bk ct := run_if h (fun z => by rw [e] at z; cases z) fun _ => h2
theorem run_yes {b : Bool} (h : TsB K w tt δ b) (e : b = true) (h2 : Run K w t δ nx rt bk ct) : Run K w (tIfS tt t u) δ nx rt bk ct := run_if h (fun _ => h2) fun z => by rw [e] at z; cases z
/-- a statement behind which the slots are known -/
theorem run_seq1 {δ1 : List Slot} (h : Run K w t δ (fun z => z = δ1) rt bk ct) (h2 : Run K w u δ1 nx rt bk ct) : Run K w (tSeq t u) δ nx rt bk ct := run_seq h fun δ' e => by rw [e]; exact h2
theorem new_eo {F H F2 H2 : Hp} {p : Addr} {vs : List V} {Q : VK} (s : Stp m0 F H F2 H2) (hp : H2 p = none) (hd : DpAll K F2 vs ds)
    (q : ∀ p vs F2 H2, Stp m0 F H F2 H2 → F2 p = none → H p = none → H2 p = some (.lst vs) → DpAll K F2 vs ds → Q (.ref p) H2) : Q (.ref p) (upd H2 p (.lst vs)) :=
  q p vs F2 _ (s.trans (.mk1 s.fh hp)) (s.fh.free hp) (by
    cases e1 : H p with
    | none => rfl
    | some o => rw [s.hs _ _ e1] at hp; cases hp) upd_same hd
theorem eo_cat (ha : SqD K w ta δ xs) (hb : SqD K w tb δ ys) (hl : xs.length + ys.length ≤ 100000) : EvO K w (tOp (rCatL K) ta tb) δ (xs ++ ys) := fun _ _ _ F H σ S Q q =>
  ha _ _ _ _ _ _ S _ fun a vs F2 H2 s hs hd => hb _ _ _ _ _ _ (S.up s) _ fun b us F3 H3 s2 hs2 hd2 =>
    ⟨a, b, vs, us, rfl, rfl, s2.hs.seq hs, hs2, by rw [da_len hd, da_len hd2]; exact small_line hl, fun p hp => new_eo (s.trans s2) hp (da_app (da_up s2.ff _ _ hd) hd2) q⟩
theorem ev_ixO {i : Int} (ha : SqD K w ta δ ds) (hb : RdD K w tb δ (.int i)) (e : atI ds i = some d) : EvD K w (tOp (rIxL K) ta tb) δ d := fun _ _ _ F H _ S Q q =>
  ha _ _ _ _ _ _ S _ fun a vs F2 H2 s hs hd => hb _ _ _ _ _ _ (S.up s) _ fun u F3 H3 s2 e2 => by
    obtain ⟨v, g1, g2⟩ := at_da (da_up s2.ff _ _ hd) e
    exact ⟨a, vs, i, v, rfl, dp_int e2, s2.hs.seq hs, g1, q v F3 H3 (s.trans s2) g2⟩
theorem ev_catT (ha : EvD K w ta δ (.tuple xs)) (hb : EvD K w tb δ (.tuple ys)) (hl : xs.length + ys.length ≤ 100000) : EvD K w (tOp (rCatA K) ta tb) δ (.tuple (xs ++ ys)) := fun _ _ _ F H σ S Q q =>
  ha _ _ _ _ _ _ S _ fun v F2 H2 s e => hb _ _ _ _ _ _ (S.up s) _ fun u F3 H3 s2 e2 => by
    obtain ⟨a, vs, rfl, hs, hd⟩ := dp_tuple (dp_up s2.ff _ _ e)
    obtain ⟨b, us, rfl, hs2, hd2⟩ := dp_tuple e2
    refine ⟨a, b, vs, us, rfl, rfl, sqt_up s2.fh hs, sqt_up s2.fh hs2, by rw [da_len hd, da_len hd2]; exact small_line hl, fun z => ?_, fun z z2 => ?_, fun z z2 p hp => ?_⟩
    · subst z
      cases hd
      exact q _ F3 H3 (s.trans s2) e2
    · subst z2
      cases hd2
      rw [List.append_nil] at q
      exact q _ F3 H3 (s.trans s2) (dp_up s2.ff _ _ e)
    · exact q _ (upd F3 p (.tup (vs ++ us))) _ ((s.trans s2).trans (.frz s2.fh hp)) (.tup (.inl (.inl upd_same)) (da_up (same_new (s2.fh.free hp)) _ _ (da_app hd hd2)))
abbrev rTupOf (K : PySem.W.Frag) : List V → Hp → VK → Prop := fun xs H Q => ∃ p ys, xs = [.ref p] ∧ ((SqL K H p ys ∧ ∀ l, H l = none → Q (.ref l) (upd H l (.tup ys))) ∨ (SqT K H p ys ∧ Q (.ref p) H))
abbrev rLstOf (K : PySem.W.Frag) : List V → Hp → VK → Prop := fun xs H Q => ∃ p ys, xs = [.ref p] ∧ (SqL K H p ys ∨ SqT K H p ys) ∧ ∀ l, H l = none → Q (.ref l) (upd H l (.lst ys))
theorem ev_tupleOf (ha : SqD K w ta δ ds) : EvD K w (tCB (rTupOf K) (tCons ta tNil)) δ (.tuple ds) := fun _ _ _ F H σ S Q q =>
  ha _ _ _ _ _ _ S _ fun a vs F2 H2 s hs hd => ⟨a, vs, rfl, .inl ⟨hs, fun p hp => q _ (upd F2 p (.tup vs)) _ (s.trans (.frz s.fh hp)) (.tup (.inl (.inl upd_same)) (da_up (same_new (s.fh.free hp)) _ _ hd))⟩⟩
theorem ev_tupleT (ha : EvD K w ta δ (.tuple ds)) : EvD K w (tCB (rTupOf K) (tCons ta tNil)) δ (.tuple ds) := fun _ _ _ F H σ S Q q =>
  ha _ _ _ _ _ _ S _ fun v F2 H2 s e => by
    obtain ⟨a, vs, rfl, hs, hd⟩ := dp_tuple e
    exact ⟨a, vs, rfl, .inr ⟨sqt_up s.fh hs, q _ F2 H2 s e⟩⟩
theorem eo_listOf (ha : SqD K w ta δ ds) : EvO K w (tCB (rLstOf K) (tCons ta tNil)) δ ds := fun _ _ _ F H σ S Q q =>
  ha _ _ _ _ _ _ S _ fun a vs F2 H2 s hs hd => ⟨a, vs, rfl, .inl hs, fun p hp => new_eo s hp hd q⟩
theorem eo_listT (ha : EvD K w ta δ (.tuple ds)) : EvO K w (tCB (rLstOf K) (tCons ta tNil)) δ ds := fun _ _ _ F H σ S Q q =>
  ha _ _ _ _ _ _ S _ fun v F2 H2 s e => by
    obtain ⟨a, vs, rfl, hs, hd⟩ := dp_tuple e
    exact ⟨a, vs, rfl, .inr (sqt_up s.fh hs), fun p hp => new_eo s hp hd q⟩
/-! slices -/
def PtD (K : PySem.W.Frag) (w : World) (to : TO) (δ : List Slot) (o : Option Int) : Prop := ∀ F0 H0 m F H σ, Sig K w F0 H0 m F H σ δ → ∀ Q : Option Int → Hp → Prop, (∀ F2 H2, Stp m0 F H F2 H2 → Q o H2) → to σ H Q
theorem pt_no : PtD K w tNoPart δ none := fun _ _ _ F H σ S Q q => q F H (.refl S.fh)
theorem pt_yes {i : Int} (h : RdD K w te δ (.int i)) : PtD K w (tPart te) δ (some i) := fun _ _ _ F H σ S Q q => h _ _ _ _ _ _ S _ fun v F2 H2 s e => ⟨i, dp_int e, q F2 H2 s⟩
def cutD (xs : List PD) (lo hi : Option Int) : List PD := (xs.drop (HT.sIx xs.length 0 lo)).take (HT.sIx xs.length xs.length hi - HT.sIx xs.length 0 lo)
theorem da_cut {H : Hp} {vs : List V} {lo hi : Option Int} (h : DpAll K H vs ds) : DpAll K H (cutV vs lo hi) (cutD ds lo hi) := by
  unfold cutV cutD
  rw [da_len h]
  exact da_take _ (da_drop _ h)
theorem eo_sl {tl th : TO} {lo hi : Option Int} (ha : SqD K w ta δ ds) (h1 : PtD K w tl δ lo) (h2 : PtD K w th δ hi) : EvO K w (tSl (rSlL K) ta tl th) δ (cutD ds lo hi) := fun _ _ _ F H σ S Q q =>
  ha _ _ _ _ _ _ S _ fun a vs F2 H2 s hs hd => h1 _ _ _ _ _ _ (S.up s) _ fun F3 H3 s2 => h2 _ _ _ _ _ _ ((S.up s).up s2) _ fun F4 H4 s3 =>
    ⟨a, vs, rfl, s3.hs.seq (s2.hs.seq hs), fun p hp => new_eo ((s.trans s2).trans s3) hp (da_cut (da_up (s2.ff.trans s3.ff) _ _ hd)) q⟩
theorem ev_slT {tl th : TO} {lo hi : Option Int} (ha : EvD K w ta δ (.tuple ds)) (h1 : PtD K w tl δ lo) (h2 : PtD K w th δ hi) : EvD K w (tSl (rSlA K) ta tl th) δ (.tuple (cutD ds lo hi)) := fun _ _ _ F H σ S Q q =>
  ha _ _ _ _ _ _ S _ fun v F2 H2 s e => h1 _ _ _ _ _ _ (S.up s) _ fun F3 H3 s2 => h2 _ _ _ _ _ _ ((S.up s).up s2) _ fun F4 H4 s3 => by
    have e4 := dp_up (s2.ff.trans s3.ff) _ _ e
    obtain ⟨a, vs, rfl, hs, hd⟩ := dp_tuple e4
    have l := da_len hd
    refine ⟨a, vs, rfl, sqt_up s3.fh hs, fun z => ?_, fun z p hp => ?_⟩
    · have ec : cutD ds lo hi = ds := by
        unfold cutD
        rw [← l, z.1, z.2, List.drop_zero, Nat.sub_zero, l, List.take_length]
      rw [ec] at q
      exact q _ F4 H4 ((s.trans s2).trans s3) e4
    · exact q _ (upd F4 p (.tup (cutV vs lo hi))) _ (((s.trans s2).trans s3).trans (.frz s3.fh hp)) (.tup (.inl (.inl upd_same)) (da_up (same_new (s3.fh.free hp)) _ _ (da_cut hd)))
/-! sets of ints -/
theorem run_set1 {i : Nat} {k : Int} (h : EvD K w te δ (.int k)) (n : nx (δ.set i (.set (fun j => decide (j = k)) 1))) : Run K w (tAsg (tSet1 w te) (gName i)) δ nx rt bk ct := fun F0 H0 m F H σ S D a _ _ _ => fun p hp => by
  have s1 : Stp m0 F H F (upd H p (SetO w p (fun _ => false) 0)) := .mk1 S.fh hp
  refine h _ _ _ _ _ _ (S.up s1) _ fun v F2 H2 s e => ?_
  have h2 : H2 p = some (SetO w p (fun _ => false) 0) := s.hs _ _ upd_same
  have f2 : F2 p = none := s.nj p (S.fh.free hp) (by rw [upd_same]; exact fun z => nomatch z)
  refine ⟨k, dp_int e, h2, ?_⟩
  have e2 : (fun j => false || decide (j = k)) = fun j : Int => decide (j = k) := funext fun j => Bool.false_or _
  rw [e2]
  have st : Stp m0 F H F2 (upd H2 p (SetO w p (fun j => decide (j = k)) 1)) := ⟨s.ff, fun b o eb => by
      rw [upd_ne (ne_of_none eb f2)]
      exact s.fh b o eb, fun b o _ eb => by
      rw [upd_ne (ne_of_none eb hp)]
      exact s.hs b o (same_new hp b o eb), fun b eb nb => s.nj b eb (up_some nb), fun b nb => up_some (s.hn b (up_some nb))⟩
  refine a _ F2 _ _ n s.ff ((S.up st).setM i ⟨p, rfl, f2, upd_same⟩ rfl (new_loc S hp) fun j sj _ ej mj eq => ?_)
  obtain ⟨p', e1, _⟩ := S.ref ej mj
  rw [e1] at eq
  cases eq
  have q := S.ok j sj ej
  rw [e1] at q
  cases sj with
  | emp => cases mj
  | d x => cases mj
  | own b xs => obtain ⟨_, _, h1, _, h3, _⟩ := q; cases h1; rw [hp] at h3; cases h3
  | gen b' n => obtain ⟨_, h1, _, _, _, _, h3, _⟩ := q; cases h1; rw [hp] at h3; cases h3
  | set S' n => obtain ⟨_, h1, _, h3⟩ := q; cases h1; rw [hp] at h3; cases h3
abbrev rSet0' (w : World) : List V → Hp → VK → Prop := rSet0 w
theorem run_set0 {i : Nat} (n : nx (δ.set i (.set (fun _ => false) 0))) : Run K w (tAsg (tCB (rSet0 w) tNil) (gName i)) δ nx rt bk ct := fun F0 H0 m F H σ S D a _ _ _ => ⟨rfl, fun p hp => by
  have s1 : Stp m0 F H F (upd H p (SetO w p (fun _ => false) 0)) := .mk1 S.fh hp
  refine a _ F _ _ n (Same.refl F) ((S.up s1).setM i ⟨p, rfl, S.fh.free hp, upd_same⟩ rfl (new_loc S hp) fun j sj _ ej mj eq => ?_)
  obtain ⟨p', e1, _⟩ := S.ref ej mj
  rw [e1] at eq
  cases eq
  have q := S.ok j sj ej
  rw [e1] at q
  cases sj with
  | emp => cases mj
  | d x => cases mj
  | own b xs => obtain ⟨_, _, h1, _, h3, _⟩ := q; cases h1; rw [hp] at h3; cases h3
  | gen b' n => obtain ⟨_, h1, _, _, _, _, h3, _⟩ := q; cases h1; rw [hp] at h3; cases h3
  | set S' n => obtain ⟨_, h1, _, h3⟩ := q; cases h1; rw [hp] at h3; cases h3⟩
theorem Sig.aset {F0 H0 F H : Hp} {m : Addr → Prop} {σ : L2.St} (S : Sig K w F0 H0 m F H σ δ) {i : Nat} {S' : Int → Bool} {n : Nat} (hi : δ[i]? = some (.set S' n)) : ∃ p, σ[i]? = some (some (.ref p)) ∧ F p = none ∧ H p = some (SetO w p S' n) := by
  obtain ⟨p, e, f⟩ := S.ref hi rfl
  obtain ⟨p', h1, h2, h3⟩ := S.ok i _ hi
  rw [e] at h1
  cases h1
  exact ⟨p, e, f, h3⟩
theorem run_sadd {i : Nat} {k : Int} {S' : Int → Bool} {n : Nat} (hi : δ[i]? = some (.set S' n)) (h : EvD K w te δ (.int k)) (hn : n < 4000) (c : nx (δ.set i (.set (fun j => S' j || decide (j = k)) (if S' k = true then n else n + 1)))) :
    Run K w (tDrop (tSAdd w (tVar i) (tCons te tNil))) δ nx rt bk ct := fun _ _ _ F H σ S D a _ _ _ => by
  obtain ⟨p, e1, f1, h1⟩ := S.aset hi
  refine ⟨_, e1, ⟨p, S', n, rfl, h1⟩, h _ _ _ _ _ _ S _ fun v F2 H2 s e => ?_⟩
  have f2 : F2 p = none := s.nj p f1 (by rw [h1]; exact fun z => nomatch z)
  have h2 : H2 p = some (SetO w p S' n) := s.hs _ _ h1
  refine ⟨p, k, S', n, rfl, by rw [dp_int e], h2, Nat.lt_of_lt_of_le (Nat.succ_lt_succ hn) (by decide), ?_⟩
  exact a _ F2 _ σ c s.ff ((S.up s).chg hi rfl e1 f2 (by rw [h2]; exact fun z => nomatch z) ⟨p, rfl, f2, upd_same⟩ rfl rfl)
theorem ev_sin {i : Nat} {k : Int} {S' : Int → Bool} {n : Nat} (hi : δ[i]? = some (.set S' n)) (h : RdD K w te δ (.int k)) : EvD K w (tOp (rSIn w) te (tVar i)) δ (.bool (S' k)) := fun _ _ _ F H σ S Q q =>
  h _ _ _ _ _ _ S _ fun v F2 H2 s e => by
    obtain ⟨p, e1, f1, h1⟩ := (S.up s).aset hi
    exact ⟨_, e1, k, p, S', n, dp_int e, rfl, h1, q _ F2 H2 s (.bl _)⟩
theorem ev_snotin {i : Nat} {k : Int} {S' : Int → Bool} {n : Nat} (hi : δ[i]? = some (.set S' n)) (h : RdD K w te δ (.int k)) : EvD K w (tOp (rSNotIn w) te (tVar i)) δ (.bool (!S' k)) := fun _ _ _ F H σ S Q q =>
  h _ _ _ _ _ _ S _ fun v F2 H2 s e => by
    obtain ⟨p, e1, f1, h1⟩ := (S.up s).aset hi
    exact ⟨_, e1, k, p, S', n, dp_int e, rfl, h1, q _ F2 H2 s (.bl _)⟩
theorem da_ints {H : Hp} : ∀ ns : List Int, DpAll K H (ns.map V.int) (ns.map PyData.int)
  | [] => .nil
  | n :: ns => .cons (.int n) (da_ints ns)
theorem ints_da {H : Hp} : ∀ {ns : List Int} {vs : List V}, DpAll K H vs (ns.map PyData.int) → vs = ns.map V.int
  | [], _, h => by cases h; rfl
  | n :: ns, _, h => by
    cases h with
    | cons r t => cases r; rw [ints_da t]; rfl
/-- sorted(s), s a set of ints of one's own: the answer is the one ascending list -/
theorem eo_sortedSet {i : Nat} {S' : Int → Bool} {n : Nat} {ns : List Int} (hi : δ[i]? = some (.set S' n)) (hn : n < 64) (h1 : ns.Pairwise (· < ·)) (h2 : ∀ k : Int, k ∈ ns ↔ S' k = true) : EvO K w (tCB (rSortedSet w) (tCons (tVar i) tNil)) δ (ns.map .int) := fun _ _ _ F H σ S Q q => by
  obtain ⟨p, e1, f1, hp⟩ := S.aset hi
  refine ⟨_, e1, p, S', n, rfl, hp, hn, fun ms p' o1 o2 o3 hp' => ?_⟩
  have e : ms = ns := List.Perm.eq_of_pairwise (le := (· < ·)) (fun a b _ _ h h' => absurd (Int.lt_trans h h') (Int.lt_irrefl _)) o1 h1 ((List.perm_ext_iff_of_nodup (o1.imp fun h => Int.ne_of_lt h) (h1.imp fun h => Int.ne_of_lt h)).mpr fun k => (o2 k).trans (h2 k).symm)
  subst e
  exact new_eo (.refl S.fh) hp' (da_ints ms) q
/-! sorted, max, min, sum of lists of ints -/
theorem eo_sorted {ns ms : List Int} (h : RdD K w te δ (.list (ns.map .int))) (hp : ms.Perm ns) (hs : ms.Pairwise (· ≤ ·)) : EvO K w (tCB (rSortedI K) (tCons te tNil)) δ (ms.map .int) := fun _ _ _ F H σ S Q q =>
  h _ _ _ _ _ _ S _ fun v F2 H2 s e => by
    obtain ⟨a, vs, rfl, hq, hd⟩ := dp_list e
    rw [ints_da hd] at hq
    refine ⟨a, ns, rfl, hq, fun ns' p o1 o2 hp' => ?_⟩
    have e : ns' = ms := List.Perm.eq_of_pairwise (le := (· ≤ ·)) (fun a b _ _ h h' => Int.le_antisymm h h') o2 hs (o1.trans hp.symm)
    subst e
    exact new_eo s hp' (da_ints ns') q
theorem ev_sum {ns : List Int} (h : RdD K w te δ (.list (ns.map .int))) : EvD K w (tCB (rSum K) (tCons te tNil)) δ (.int ns.sum) :=
  rd_call (ra_cons h ra_nil) (fun H => .int _) fun H vs h Q q => by
    obtain ⟨v, rfl, r⟩ := da1 h
    obtain ⟨a, us, rfl, hq, hd⟩ := dp_list r
    rw [ints_da hd] at hq
    exact ⟨a, ns, rfl, hq, q⟩
end
end MU

namespace MU
open PySem PySem.Spec L2
/-! ## a drawing list that turns -/
abbrev gmax : Int := 1000000000000
def spG (K : PySem.W.Frag) (l : Nat) (k : Int) (R : List PD → (PD → Prop) → Prop) : Sp := fun vs H Q _ => ∃ F g n us ds P, vs = .ref g :: us ∧ Same F H ∧ F g = none ∧ GenAt H g n ∧ n + k ≤ gmax ∧ DpAll K F us ds ∧ ds.length + 1 = l ∧ R ds P ∧
  ∀ d v F2 H2, P d → Stp (fun a => a = g) F H F2 H2 → GenAt H2 g (n + k) → Dp K F2 v d → Q v H2
theorem len_G {K : PySem.W.Frag} {l : Nat} {k : Int} {R : List PD → (PD → Prop) → Prop} : ∀ vs H Q E, spG K l k R vs H Q E → vs.length = l := fun vs H Q E ⟨_, _, _, _, _, _, e, _, _, _, _, h, z, _⟩ => by rw [e, List.length_cons, da_len h, z]
section
variable {K : PySem.W.Frag} {w : World} {δ δ' : List Slot} {te ta tb : TE} {tt : TT} {t u : TS} {tz : TA} {d x y : PD} {ds es xs ys : List PD} {nx nx' mid bk ct : PN} {rt : List Slot → Ret → Prop} {g : TG} {wi : TI} {P P1 P2 : PD → Prop} {PA PB : List PD → Prop} {i : Nat} {b : Bool} {n n1 n2 : Int}
/-- the drawing list at g has turned -/
theorem Sig.turn {F0 H0 F H F2 H2 : Hp} {m : Addr → Prop} {σ : L2.St} {g : Addr} (S : Sig K w F0 H0 m F H σ (δ.set i (.gen b n))) (hi : i < δ.length) (hg : σ[i]? = some (some (.ref g))) (st : Stp (fun a => a = g) F H F2 H2) (G : GenAt H2 g n2) :
    Sig K w F0 H0 m F2 H2 σ (δ.set i (.gen b n2)) := by
  have e0 : (δ.set i (.gen b n))[i]? = some (.gen b n) := List.getElem?_set_self hi
  have fr := S.fr i _ g e0 rfl hg
  have F1 : F g = none := by
    obtain ⟨p, e, f⟩ := S.ref e0 rfl
    rw [hg] at e
    cases e
    exact f
  have Hg : H g ≠ none := by
    obtain ⟨p, e, f, a, s, c, h, _⟩ := S.ok i _ e0
    rw [hg] at e
    cases e
    rw [h]
    exact fun z => nomatch z
  have F2g : F2 g = none := st.nj g F1 Hg
  have slot : ∀ (j : Nat) (s : Slot), i ≠ j → (δ.set i (.gen b n2))[j]? = some s → (δ.set i (.gen b n))[j]? = some s := fun j s z e => by
    rw [List.getElem?_set_ne z] at e ⊢
    exact e
  have self : (δ.set i (.gen b n2))[i]? = some (.gen b n2) := List.getElem?_set_self hi
  refine ⟨⟨S.st.ff.trans st.ff, st.fh, fun a o na e => ?_, fun a e na => st.nj a (S.st.nj a e na) (S.st.hn a na), fun a na => st.hn a (S.st.hn a na)⟩, by have := S.len; rw [List.length_set] at this ⊢; exact this, fun j s e => ?_, fun j k si sj v jk ej ek mj mk => ?_, fun j s p e ms ep => ?_⟩
  · refine st.hh a o (fun z => ?_) (S.st.hh a o na e)
    subst z
    cases q : b with
    | false => exact na (fr.2 (by rw [q]; rfl))
    | true => rw [fr.1 (by rw [q]; rfl)] at e; cases e
  · by_cases z : i = j
    · subst z
      rw [self] at e
      cases e
      rw [hg]
      exact ⟨g, rfl, F2g, G⟩
    · have e' := slot j s z e
      have q := S.ok j s e'
      cases s with
      | emp => exact trivial
      | d x => obtain ⟨v, h1, h2⟩ := q; exact ⟨v, h1, dp_up st.ff _ _ h2⟩
      | own b xs =>
        obtain ⟨p, vs, h1, h2, h3, h4⟩ := q
        have ne : p ≠ g := fun y => by
          subst y
          refine S.dis i j _ _ _ z e0 e' rfl rfl hg ?_
          cases e1 : σ[j]? with
          | none => rw [e1] at h1; cases h1
          | some o => rw [e1] at h1; exact congrArg some h1
        exact ⟨p, vs, h1, st.nj p h2 (by rw [h3]; exact fun z => nomatch z), st.hh p _ ne h3, da_up st.ff _ _ h4⟩
      | gen b' n' =>
        obtain ⟨p, h1, h2, a, b, c, h3, h4⟩ := q
        have ne : p ≠ g := fun y => by
          subst y
          refine S.dis i j _ _ _ z e0 e' rfl rfl hg ?_
          cases e1 : σ[j]? with
          | none => rw [e1] at h1; cases h1
          | some o => rw [e1] at h1; exact congrArg some h1
        exact ⟨p, h1, st.nj p h2 (by rw [h3]; exact fun z => nomatch z), a, b, c, st.hh p _ ne h3, h4⟩
      | set S' n' =>
        obtain ⟨p, h1, h2, h3⟩ := q
        have ne : p ≠ g := fun y => by
          subst y
          refine S.dis i j _ _ _ z e0 e' rfl rfl hg ?_
          cases e1 : σ[j]? with
          | none => rw [e1] at h1; cases h1
          | some o => rw [e1] at h1; exact congrArg some h1
        exact ⟨p, h1, st.nj p h2 (by rw [h3]; exact fun z => nomatch z), st.hh p _ ne h3⟩
  · have mtx : ∀ (l : Nat) (sl : Slot), (δ.set i (.gen b n2))[l]? = some sl → sl.mt = true → ∃ s2, (δ.set i (.gen b n))[l]? = some s2 ∧ s2.mt = true := fun l sl e1 e2 => by
      by_cases z : i = l
      · subst z; exact ⟨_, e0, rfl⟩
      · exact ⟨sl, slot l sl z e1, e2⟩
    obtain ⟨s1, a1, b1⟩ := mtx j si ej mj
    obtain ⟨s2, a2, b2⟩ := mtx k sj ek mk
    exact S.dis j k s1 s2 v jk a1 a2 b1 b2
  · by_cases z : i = j
    · subst z
      rw [self] at e
      cases e
      have q := S.fr i (.gen b n) p e0 rfl ep
      exact q
    · exact S.fr j s p (slot j s z e) ms ep
/-- an expression that draws: what it may be worth -/
def EvG (K : PySem.W.Frag) (w : World) (te : TE) (δ : List Slot) (i : Nat) (b : Bool) (n n2 : Int) (P : PD → Prop) : Prop := ∀ F0 H0 m F H σ g, Sig K w F0 H0 m F H σ (δ.set i (.gen b n)) → i < δ.length → σ[i]? = some (some (.ref g)) →
  ∀ Q : VK, (∀ d v F2 H2, P d → Stp (fun a => a = g) F H F2 H2 → Sig K w F0 H0 m F2 H2 σ (δ.set i (.gen b n2)) → Dp K F2 v d → Q v H2) → te σ H Q
def EvGA (K : PySem.W.Frag) (w : World) (tz : TA) (δ : List Slot) (i : Nat) (b : Bool) (n n2 : Int) (P : List PD → Prop) : Prop := ∀ F0 H0 m F H σ g, Sig K w F0 H0 m F H σ (δ.set i (.gen b n)) → i < δ.length → σ[i]? = some (some (.ref g)) →
  ∀ Q : List V → Hp → Prop, (∀ ds vs F2 H2, P ds → Stp (fun a => a = g) F H F2 H2 → Sig K w F0 H0 m F2 H2 σ (δ.set i (.gen b n2)) → DpAll K F2 vs ds → Q vs H2) → tz σ H Q
def TsG (K : PySem.W.Frag) (w : World) (tt : TT) (δ : List Slot) (i : Nat) (b : Bool) (n n2 : Int) (P : Bool → Prop) : Prop := ∀ F0 H0 m F H σ g, Sig K w F0 H0 m F H σ (δ.set i (.gen b n)) → i < δ.length → σ[i]? = some (some (.ref g)) →
  ∀ Q : Bool → Hp → Prop, (∀ bb F2 H2, P bb → Stp (fun a => a = g) F H F2 H2 → Sig K w F0 H0 m F2 H2 σ (δ.set i (.gen b n2)) → Q bb H2) → tt σ H Q
theorem EvG.imp {P' : PD → Prop} (h : EvG K w te δ i b n n2 P) (p : ∀ d, P d → P' d) : EvG K w te δ i b n n2 P' := fun _ _ _ _ _ _ _ S hi hg Q q => h _ _ _ _ _ _ _ S hi hg Q fun d v F2 H2 a => q d v F2 H2 (p d a)
theorem eg_pure (h : EvD K w te (δ.set i (.gen b n)) d) : EvG K w te δ i b n n (fun z => z = d) := fun _ _ _ F H σ g S hi hg Q q => h _ _ _ _ _ _ S _ fun v F2 H2 s e => q d v F2 H2 rfl s.wk (S.up s) e
theorem ega_pure (h : EvA K w tz (δ.set i (.gen b n)) ds) : EvGA K w tz δ i b n n (fun z => z = ds) := fun _ _ _ F H σ g S hi hg Q q => h _ _ _ _ _ _ S _ fun v F2 H2 s e => q ds v F2 H2 rfl s.wk (S.up s) e
theorem ega_nil : EvGA K w tNil δ i b n n (fun z => z = []) := ega_pure ea_nil
theorem ega_cons (h : EvG K w te δ i b n n1 P) (h2 : EvGA K w tz δ i b n1 n2 PA) : EvGA K w (tCons te tz) δ i b n n2 (fun z => ∃ d r, z = d :: r ∧ P d ∧ PA r) := fun _ _ _ F H σ g S hi hg Q q =>
  h _ _ _ _ _ _ _ S hi hg _ fun d v F2 H2 p s S2 e => h2 _ _ _ _ _ _ _ S2 hi hg _ fun ds vs F3 H3 p2 s2 S3 e2 => q (d :: ds) (v :: vs) F3 H3 ⟨d, ds, rfl, p, p2⟩ (s.trans s2) S3 (.cons (dp_up s2.ff _ _ e) e2)
theorem ega_cons2 {PB : PD → List PD → Prop} (h : EvG K w te δ i b n n1 P) (h2 : ∀ d, P d → EvGA K w tz δ i b n1 n2 (PB d)) : EvGA K w (tCons te tz) δ i b n n2 (fun z => ∃ d r, z = d :: r ∧ P d ∧ PB d r) := fun _ _ _ F H σ g S hi hg Q q =>
  h _ _ _ _ _ _ _ S hi hg _ fun d v F2 H2 p s S2 e => h2 d p _ _ _ _ _ _ _ S2 hi hg _ fun ds vs F3 H3 p2 s2 S3 e2 => q (d :: ds) (v :: vs) F3 H3 ⟨d, ds, rfl, p, p2⟩ (s.trans s2) S3 (.cons (dp_up s2.ff _ _ e) e2)
/-- f(g, ..), f a def that draws -/
theorem eg_call {l : Nat} {k : Int} {R : List PD → (PD → Prop) → Prop} {E : XK} (h : EvGA K w tz δ i b n n1 PA) (hn : n1 + k ≤ gmax) (r : ∀ ds, PA ds → ds.length + 1 = l ∧ R ds P) : EvG K w (tCall (spG K l k R) [] E (tCons (tVar i) tz)) δ i b n (n1 + k) P := fun _ _ _ F H σ g S hi hg Q q => by
  refine ⟨_, hg, h _ _ _ _ _ _ _ S hi hg _ fun ds vs F2 H2 p s S2 e => ?_⟩
  have e0 : (δ.set i (.gen b n1))[i]? = some (.gen b n1) := List.getElem?_set_self hi
  obtain ⟨p', e1, f1, G⟩ := S2.ok i _ e0
  rw [hg] at e1
  cases e1
  refine ⟨F2, g, n1, vs, ds, P, by rw [List.append_nil], S2.fh, f1, G, hn, e, (r ds p).1, (r ds p).2, fun d v F3 H3 pd s3 G3 e3 => ?_⟩
  exact q d v F3 H3 pd (s.trans s3) (S2.turn hi hg s3 G3) e3
/-- f(..), f a def that does not draw, its arguments do -/
theorem eg_callP {l : Nat} {R : List PD → PD → Prop} {E : XK} (h : EvGA K w tz δ i b n n1 PA) (r : ∀ ds, PA ds → ds.length = l ∧ ∃ d, R ds d ∧ P d) : EvG K w (tCall (spS K l R) [] E tz) δ i b n n1 P := fun _ _ _ F H σ g S hi hg Q q =>
  h _ _ _ _ _ _ _ S hi hg _ fun ds vs F2 H2 p s S2 e => by
    obtain ⟨hl, d, rd, pd⟩ := r ds p
    exact ⟨F2, ds, d, S2.fh, by rw [List.append_nil]; exact e, hl, rd, fun v F3 H3 s3 e3 => q d v F3 H3 pd (s.trans s3.wk) (S2.up s3) e3⟩
theorem eg_op2 {r : R2} (h : EvG K w ta δ i b n n1 P1) (h2 : EvG K w tb δ i b n1 n2 P2) (hr : ∀ x y, P1 x → P2 y → ∃ z e, P e ∧ (∀ H : Hp, Dp K H z e) ∧ ∀ (H : Hp) (v u : V), Dp K H v x → Dp K H u y → ∀ Q : VK, Q z H → r v u H Q) : EvG K w (tOp r ta tb) δ i b n n2 P := fun _ _ _ F H σ g S hi hg Q q =>
  h _ _ _ _ _ _ _ S hi hg _ fun x v F2 H2 p s S2 e => h2 _ _ _ _ _ _ _ S2 hi hg _ fun y u F3 H3 p2 s2 S3 e2 => by
    obtain ⟨z, e3, pe, dz, hrr⟩ := hr x y p p2
    exact hrr H3 v u (dp_up (s2.ff.trans S3.fh) _ _ e) (dp_up S3.fh _ _ e2) Q (q e3 z F3 H3 pe (s.trans s2) S3 (dz F3))
theorem eg_int2 {f : Int → Int → V} (h : EvG K w ta δ i b n n1 P1) (h2 : EvG K w tb δ i b n1 n2 P2) (hr : ∀ x y, P1 x → P2 y → ∃ a b e, x = .int a ∧ y = .int b ∧ P e ∧ ∀ H : Hp, Dp K H (f a b) e) : EvG K w (tOp (rI0 f) ta tb) δ i b n n2 P :=
  eg_op2 h h2 fun x y p q => by
    obtain ⟨a, b, e, rfl, rfl, pe, dz⟩ := hr x y p q
    exact ⟨f a b, e, pe, dz, fun H v u h1 h2 Q q => ⟨a, b, dp_int h1, dp_int h2, q⟩⟩
theorem eg_cb {r : List V → Hp → VK → Prop} (h : EvGA K w tz δ i b n n2 PA) (hr : ∀ ds, PA ds → ∃ z e, P e ∧ (∀ H : Hp, Dp K H z e) ∧ ∀ (H : Hp) (vs : List V), DpAll K H vs ds → ∀ Q : VK, Q z H → r vs H Q) : EvG K w (tCB r tz) δ i b n n2 P := fun _ _ _ F H σ g S hi hg Q q =>
  h _ _ _ _ _ _ _ S hi hg _ fun ds vs F2 H2 p s S2 e => by
    obtain ⟨z, e3, pe, dz, hrr⟩ := hr ds p
    exact hrr H2 vs (da_up S2.fh _ _ e) Q (q e3 z F2 H2 pe s S2 (dz F2))
theorem eg_ixL (h : EvG K w ta δ i b n n1 P1) (h2 : EvG K w tb δ i b n1 n2 P2) (hr : ∀ x y, P1 x → P2 y → ∃ ds k d, x = .list ds ∧ y = .int k ∧ atI ds k = some d ∧ P d) : EvG K w (tOp (rIxL K) ta tb) δ i b n n2 P := fun _ _ _ F H σ g S hi hg Q q =>
  h _ _ _ _ _ _ _ S hi hg _ fun x v F2 H2 p s S2 e => h2 _ _ _ _ _ _ _ S2 hi hg _ fun y u F3 H3 p2 s2 S3 e2 => by
    obtain ⟨ds, k, d, rfl, rfl, ha, pd⟩ := hr x y p p2
    obtain ⟨a, vs, rfl, hs, hd⟩ := dp_list (dp_up s2.ff _ _ e)
    obtain ⟨v', g1, g2⟩ := at_da hd ha
    exact ⟨a, vs, k, v', rfl, dp_int e2, S3.fh.seq hs, g1, q d v' F3 H3 pd (s.trans s2) S3 g2⟩
theorem stp_frz {F H : Hp} {p g : Addr} {o : HO} (h : Same F H) (hp : H p = none) : Stp (fun a => a = g) F H (upd F p o) (upd H p o) := Stp.frz h hp
theorem eg_lst (h : EvGA K w tz δ i b n n2 PA) (hl : ∀ ds, PA ds → ds.length ≤ 100000 ∧ P (.list ds)) : EvG K w (tLst tz) δ i b n n2 P := fun _ _ _ F H σ g S hi hg Q q =>
  h _ _ _ _ _ _ _ S hi hg _ fun ds vs F2 H2 p s S2 e => by
    obtain ⟨l1, pd⟩ := hl ds p
    refine ⟨by rw [da_len e]; exact small_line l1, fun D hD => ?_⟩
    exact q (.list ds) (.ref D) (upd F2 D (.lst vs)) _ pd (s.trans (stp_frz S2.fh hD)) (S2.up (.frz S2.fh hD)) (.lst (.inl (.inl upd_same)) (da_up (same_new (S2.fh.free hD)) _ _ e))
theorem eg_tup (h : EvGA K w tz δ i b n n2 PA) (hl : ∀ ds, PA ds → ds.length ≤ 100000 ∧ P (.tuple ds)) : EvG K w (tTup tz) δ i b n n2 P := fun _ _ _ F H σ g S hi hg Q q =>
  h _ _ _ _ _ _ _ S hi hg _ fun ds vs F2 H2 p s S2 e => by
    obtain ⟨l1, pd⟩ := hl ds p
    refine ⟨by rw [da_len e]; exact small_line l1, fun D hD => ?_⟩
    exact q (.tuple ds) (.ref D) (upd F2 D (.tup vs)) _ pd (s.trans (stp_frz S2.fh hD)) (S2.up (.frz S2.fh hD)) (.tup (.inl (.inl upd_same)) (da_up (same_new (S2.fh.free hD)) _ _ e))
/-! statements that draw -/
theorem Sig.gadr {F0 H0 F H : Hp} {m : Addr → Prop} {σ : L2.St} (S : Sig K w F0 H0 m F H σ (δ.set i (.gen b n))) (hi : i < δ.length) : ∃ g, σ[i]? = some (some (.ref g)) := by
  obtain ⟨p, e, _⟩ := S.ref (List.getElem?_set_self hi) rfl
  exact ⟨p, e⟩
theorem run_setG {j : Nat} (h : EvG K w te δ i b n n2 P) (hi : i < δ.length) (c : ∀ d, P d → nx ((δ.set i (.gen b n2)).set j (.d d))) : Run K w (tAsg te (gName j)) (δ.set i (.gen b n)) nx rt bk ct := fun _ _ _ F H σ S D a _ _ _ => by
  obtain ⟨g, hg⟩ := S.gadr hi
  exact h _ _ _ _ _ _ _ S hi hg _ fun d v F2 H2 p s S2 e => a _ F2 H2 _ (c d p) s.ff (S2.setD j e)
theorem run_retG (h : EvG K w te δ i b n n2 P) (hi : i < δ.length) (c : ∀ d, P d → rt (δ.set i (.gen b n2)) (.d d)) : Run K w (tRet te) (δ.set i (.gen b n)) nx rt bk ct := fun _ _ _ F H σ S D _ b _ _ => by
  obtain ⟨g, hg⟩ := S.gadr hi
  exact h _ _ _ _ _ _ _ S hi hg _ fun d v F2 H2 p s S2 e => b _ (.d d) v F2 H2 σ (c d p) s.ff S2 e
theorem run_appendG {j : Nat} {b2 : Bool} (h : EvG K w te δ i b n n2 P) (hi : i < δ.length) (hj : (δ.set i (.gen b n))[j]? = some (.own b2 ds)) (hj2 : (δ.set i (.gen b n2))[j]? = some (.own b2 ds)) (ij : i ≠ j) (hl : ds.length < 100000) (c : ∀ d, P d → nx ((δ.set i (.gen b n2)).set j (.own b2 (ds ++ [d])))) :
    Run K w (tDrop (tBM K "list" rAppend (tVar j) (tCons te tNil))) (δ.set i (.gen b n)) nx rt bk ct := fun _ _ _ F H σ S D a _ _ _ => by
  obtain ⟨g, hg⟩ := S.gadr hi
  obtain ⟨p, vs, e1, f1, h1, d1⟩ := S.own hj
  refine ⟨_, e1, .inl ⟨rfl, vs, .inl (.inl h1)⟩, h _ _ _ _ _ _ _ S hi hg _ fun d v F2 H2 pd s S2 e => ?_⟩
  obtain ⟨p2, vs2, e2, f2, h2, d2⟩ := S2.own hj2
  rw [e1] at e2
  cases e2
  refine ⟨p, vs2, v, rfl, rfl, h2, by rw [da_len d2]; exact lt_line hl, ?_⟩
  exact a _ F2 _ σ (c d pd) s.ff (S2.chg hj2 rfl e1 f2 (by rw [h2]; exact fun z => nomatch z) ⟨p, _, rfl, f2, upd_same, da_app d2 (.cons e .nil)⟩ rfl rfl)
theorem tsg_pure {bb : Bool} (h : TsB K w tt (δ.set i (.gen b n)) bb) : TsG K w tt δ i b n n (fun z => z = bb) := fun _ _ _ F H σ g S hi hg Q q => h _ _ _ _ _ _ S _ fun F2 H2 s => q bb F2 H2 rfl s.wk (S.up s)
theorem tsg_val {PB : Bool → Prop} (h : EvG K w te δ i b n n2 (fun d => ∃ bb, d = .bool bb ∧ PB bb)) : TsG K w (tB te) δ i b n n2 PB := fun _ _ _ F H σ g S hi hg Q q => h _ _ _ _ _ _ _ S hi hg _ fun d v F2 H2 p s S2 e => by
  obtain ⟨bb, rfl, pb⟩ := p
  exact ⟨bb, dp_bool e, q bb F2 H2 pb s S2⟩
theorem tsg_cmp {PB : Bool → Prop} (h : EvG K w te δ i b n n2 (fun d => ∃ bb, d = .bool bb ∧ PB bb)) : TsG K w (tTest te) δ i b n n2 PB := fun _ _ _ F H σ g S hi hg Q q => h _ _ _ _ _ _ _ S hi hg _ fun d v F2 H2 p s S2 e => by
  obtain ⟨bb, rfl, pb⟩ := p
  exact ⟨bb, dp_bool e, q bb F2 H2 pb s S2⟩
theorem tsg_not {PB : Bool → Prop} (h : TsG K w tt δ i b n n2 (fun bb => PB (!bb))) : TsG K w (tNot tt) δ i b n n2 PB := fun _ _ _ F H σ g S hi hg Q q => h _ _ _ _ _ _ _ S hi hg _ fun bb F2 H2 p s S2 => q (!bb) F2 H2 p s S2
theorem run_ifG {PB : Bool → Prop} (h : TsG K w tt δ i b n n2 PB) (hi : i < δ.length) (h1 : PB true → Run K w t (δ.set i (.gen b n2)) nx rt bk ct) (h2 : PB false → Run K w u (δ.set i (.gen b n2)) nx rt bk ct) : Run K w (tIfS tt t u) (δ.set i (.gen b n)) nx rt bk ct := fun _ _ _ F H σ S D a r c e => by
  obtain ⟨g, hg⟩ := S.gadr hi
  refine h _ _ _ _ _ _ _ S hi hg _ fun bb F2 H2 p s S2 => ?_
  cases bb with
  | true => exact h1 p _ _ _ _ _ _ S2 D (fun δ' F3 H3 σ3 q s2 S3 => a δ' F3 H3 σ3 q (s.ff.trans s2) S3) (fun δ' z v F3 H3 σ3 q s2 S3 R => r δ' z v F3 H3 σ3 q (s.ff.trans s2) S3 R) (fun δ' F3 H3 σ3 q s2 S3 => c δ' F3 H3 σ3 q (s.ff.trans s2) S3) (fun δ' F3 H3 σ3 q s2 S3 => e δ' F3 H3 σ3 q (s.ff.trans s2) S3)
  | false => exact h2 p _ _ _ _ _ _ S2 D (fun δ' F3 H3 σ3 q s2 S3 => a δ' F3 H3 σ3 q (s.ff.trans s2) S3) (fun δ' z v F3 H3 σ3 q s2 S3 R => r δ' z v F3 H3 σ3 q (s.ff.trans s2) S3 R) (fun δ' F3 H3 σ3 q s2 S3 => c δ' F3 H3 σ3 q (s.ff.trans s2) S3) (fun δ' F3 H3 σ3 q s2 S3 => e δ' F3 H3 σ3 q (s.ff.trans s2) S3)
/-- the drawing list opened: its three numbers -/
theorem run_opn (hi : i < δ.length) (h : ∀ a s c : Int, 0 ≤ a → a < 10 ^ 600 → 0 ≤ s → s < 2147483647 → 0 ≤ c → c ≤ n → Run K w t (δ.set i (.own b [.int a, .int s, .int c])) nx rt bk ct) : Run K w t (δ.set i (.gen b n)) nx rt bk ct := fun F0 H0 m F H σ S D x1 x2 x3 x4 => by
  have e0 : (δ.set i (.gen b n))[i]? = some (.gen b n) := List.getElem?_set_self hi
  obtain ⟨g, hg⟩ := S.gadr hi
  obtain ⟨p', e1, f1, a, s, c, hH, b1, b2, b3, b4, b5, b6⟩ := S.ok i _ e0
  rw [hg] at e1
  cases e1
  refine h a s c b1 b2 b3 b4 b5 b6 F0 H0 m F H σ ?_ D x1 x2 x3 x4
  have self : (δ.set i (.own b [.int a, .int s, .int c]))[i]? = some (.own b [.int a, .int s, .int c]) := List.getElem?_set_self hi
  have slot : ∀ (j : Nat) (z : Slot), i ≠ j → (δ.set i (.own b [.int a, .int s, .int c]))[j]? = some z → (δ.set i (.gen b n))[j]? = some z := fun j z q e => by
    rw [List.getElem?_set_ne q] at e ⊢
    exact e
  refine ⟨S.st, by have := S.len; rw [List.length_set] at this ⊢; exact this, fun j z e => ?_, fun j k si sj v jk ej ek mj mk => ?_, fun j z p e ms ep => ?_⟩
  · by_cases q : i = j
    · subst q
      rw [self] at e
      cases e
      rw [hg]
      exact ⟨g, _, rfl, f1, hH, .cons (.int a) (.cons (.int s) (.cons (.int c) .nil))⟩
    · exact S.ok j z (slot j z q e)
  · have mtx : ∀ (l : Nat) (sl : Slot), (δ.set i (.own b [.int a, .int s, .int c]))[l]? = some sl → sl.mt = true → ∃ s2, (δ.set i (.gen b n))[l]? = some s2 ∧ s2.mt = true := fun l sl e1 e2 => by
      by_cases q : i = l
      · subst q; exact ⟨_, e0, rfl⟩
      · exact ⟨sl, slot l sl q e1, e2⟩
    obtain ⟨s1, a1, b1⟩ := mtx j si ej mj
    obtain ⟨s2, a2, b2⟩ := mtx k sj ek mk
    exact S.dis j k s1 s2 v jk a1 a2 b1 b2
  · by_cases q : i = j
    · subst q
      rw [self] at e
      cases e
      have q := S.fr i (.gen b n) p e0 rfl ep
      exact q
    · exact S.fr j z p (slot j z q e) ms ep
/-- the drawing list's end -/
def GenEnd (δ : List Slot) (n : Int) : Prop := (∃ k, δ[0]? = some (.gen false k) ∧ k ≤ n) ∨ ∃ a s c : Int, δ[0]? = some (.own false [.int a, .int s, .int c]) ∧ 0 ≤ a ∧ a < 10 ^ 600 ∧ 0 ≤ s ∧ s < 2147483647 ∧ 0 ≤ c ∧ c ≤ n
theorem genEnd_at {F0 H0 F H : Hp} {m : Addr → Prop} {σ : L2.St} {p : Addr} (S : Sig K w F0 H0 m F H σ δ) (e : GenEnd δ n) (hp : σ[0]? = some (some (.ref p))) : GenAt H p n := by
  rcases e with ⟨k, e, h⟩ | ⟨a, s, c, e, b⟩
  · obtain ⟨p', e1, f1, a, s, c, hH, b1, b2, b3, b4, b5, b6⟩ := S.ok 0 _ e
    rw [hp] at e1
    cases e1
    exact ⟨a, s, c, hH, b1, b2, b3, b4, b5, Int.le_trans b6 h⟩
  · obtain ⟨p', vs, e1, f1, hH, hd⟩ := S.ok 0 _ e
    rw [hp] at e1
    cases e1
    have e3 : vs = [.int a, .int s, .int c] := ints_da (ns := [a, s, c]) hd
    rw [e3] at hH
    exact ⟨a, s, c, hH, b⟩
/-- a def that draws: its body -/
theorem start_sigG {N : List Str} {F H : Hp} {g : Addr} {vs : List V} (h : DpAll K F vs ds) (s : Same F H) (fg : F g = none) (G : GenAt H g n) : Sig K w F H (fun a => a = g) F H (L2.start N (.ref g :: vs)) (.gen false n :: startD (N.length - 1) ds) := by
  have l := da_len h
  have slot : ∀ (i : Nat) (s : Slot), (startD (N.length - 1) ds)[i]? = some s → (∃ d, ds[i]? = some d ∧ s = .d d) ∨ s = .emp := fun i s e => by
    unfold startD at e
    by_cases q : i < ds.length
    · rw [List.getElem?_append_left (by rw [List.length_map]; exact q), List.getElem?_map] at e
      rw [List.getElem?_eq_getElem q] at e ⊢
      exact .inl ⟨_, rfl, (Option.some.inj e).symm⟩
    · rw [List.getElem?_append_right (by rw [List.length_map]; omega)] at e
      exact .inr (List.eq_of_mem_replicate (List.mem_of_getElem? e))
  have e0 : L2.start N (.ref g :: vs) = some (.ref g) :: (vs.map some ++ List.replicate (N.length - 1 - vs.length) none) := by
    unfold L2.start
    rw [List.map_cons, List.length_cons, List.cons_append, Nat.sub_sub, Nat.add_comm]
  rw [e0]
  have mt1 : ∀ (i : Nat) (s : Slot), (.gen false n :: startD (N.length - 1) ds)[i]? = some s → s.mt = true → i = 0 ∧ s = .gen false n := fun i s e ms => by
    cases i with
    | zero => cases e; exact ⟨rfl, rfl⟩
    | succ j => rcases slot j s e with ⟨d, e1, rfl⟩ | rfl <;> cases ms
  refine ⟨.refl s, ?_, fun i s e => ?_, fun i j si sj v ij ei ej mi mj => ?_, fun i s p e ms ep => ?_⟩
  · unfold startD
    rw [List.length_cons, List.length_cons, List.length_append, List.length_append, List.length_map, List.length_map, List.length_replicate, List.length_replicate, l]
  · cases i with
    | zero => cases e; exact ⟨g, rfl, fg, G⟩
    | succ j =>
      rcases slot j s e with ⟨d, e1, rfl⟩ | rfl
      · obtain ⟨v, h1, h2⟩ := da_get h e1
        refine ⟨v, ?_, h2⟩
        rw [List.getElem?_cons_succ, List.getElem?_append_left (by rw [List.length_map]; exact (List.getElem?_eq_some_iff.mp h1).1), List.getElem?_map, h1]
        rfl
      · exact trivial
  · obtain ⟨a1, _⟩ := mt1 i si ei mi
    obtain ⟨a2, _⟩ := mt1 j sj ej mj
    exact absurd (a1.trans a2.symm) ij
  · obtain ⟨a1, rfl⟩ := mt1 i s e ms
    subst a1
    cases ep
    exact ⟨(fun y => by cases y), fun _ => rfl⟩
theorem run_spG {N : List Str} {F H : Hp} {g : Addr} {vs : List V} {Q : VK} {k : Int} (s : Same F H) (fg : F g = none) (G : GenAt H g n) (h : DpAll K F vs ds) (c : ∀ d v F2 H2, P d → Stp (fun a => a = g) F H F2 H2 → GenAt H2 g (n + k) → Dp K F2 v d → Q v H2)
    (r : Run K w t (.gen false n :: startD (N.length - 1) ds) no1 (fun δ' r => GenEnd δ' (n + k) ∧ ((∃ d, r = .d d ∧ P d) ∨ ∃ xs, r = .own xs ∧ P (.list xs))) no1 no1) : t { nx := fun _ H' => Q .non H', rt := Q } (L2.start N (.ref g :: vs)) H := by
  refine r F H _ F H _ (start_sigG h s fg G) _ (fun _ _ _ _ z => z.elim) (fun δ' r v F2 H2 σ2 e f S R => ?_) (fun _ _ _ _ z => z.elim) (fun _ _ _ _ z => z.elim)
  have hm : ∃ s, δ'[0]? = some s ∧ s.mt = true := by
    rcases e.1 with ⟨k, e, _⟩ | ⟨a, b, c, e, _⟩
    · exact ⟨_, e, rfl⟩
    · exact ⟨_, e, rfl⟩
  obtain ⟨s0, e0, m0⟩ := hm
  obtain ⟨p, ep, _⟩ := S.ref e0 m0
  have G2 : GenAt H2 p (n + k) := genEnd_at S e.1 ep
  have pg : p = g := by
    refine (S.fr 0 _ p e0 m0 ep).2 ?_
    rcases e.1 with ⟨k, e, _⟩ | ⟨a, b, c, e, _⟩
    · rw [e] at e0; cases e0; rfl
    · rw [e] at e0; cases e0; rfl
  subst pg
  rcases e.2 with ⟨d, rfl, pd⟩ | ⟨xs, rfl, pd⟩
  · exact c d v F2 H2 pd S.st G2 R
  · obtain ⟨p, vs, rfl, f1, h0, h1, d1⟩ := R
    refine c _ _ (upd F2 p (.lst vs)) H2 pd ⟨S.st.ff.trans (same_new f1), fun b o eb => ?_, S.st.hh, fun b eb nb => ?_, S.st.hn⟩ G2 (.lst (.inl (.inl upd_same)) (da_up (same_new f1) _ _ d1))
    · by_cases z : b = p
      · subst z; rw [upd_same] at eb; cases eb; exact h1
      · rw [upd_ne z] at eb; exact S.fh b o eb
    · rw [upd_ne (fun z => nb (by rw [z]; exact h0))]
      exact S.st.nj b eb nb
/-- x = e, e a new drawing list -/
theorem run_setGen {j : Nat} {a s c : Int} (h : EvO K w te δ [.int a, .int s, .int c]) (hb : 0 ≤ a ∧ a < 10 ^ 600 ∧ 0 ≤ s ∧ s < 2147483647 ∧ 0 ≤ c ∧ c ≤ n) (k : nx (δ.set j (.gen true n))) : Run K w (tAsg te (gName j)) δ nx rt bk ct := fun F0 H0 m F H σ S D x _ _ _ =>
  h _ _ _ _ _ _ S _ fun p vs F2 H2 st f np e dp => x _ F2 H2 _ k st.ff ((S.up st).setM j ⟨p, rfl, f, a, s, c, by rw [e, ints_da (ns := [a, s, c]) dp]; rfl, hb⟩ rfl (new_loc S np) fun j2 sj _ ej mj eq => by
      obtain ⟨p', e1, _⟩ := S.ref ej mj
      rw [e1] at eq
      cases eq
      have q := S.ok j2 sj ej
      rw [e1] at q
      cases sj with
      | emp => cases mj
      | d x => cases mj
      | own b xs => obtain ⟨_, _, h1, _, h3, _⟩ := q; cases h1; rw [np] at h3; cases h3
      | gen b' n => obtain ⟨_, h1, _, _, _, _, h3, _⟩ := q; cases h1; rw [np] at h3; cases h3
      | set S' n => obtain ⟨_, h1, _, h3⟩ := q; cases h1; rw [np] at h3; cases h3)
/-- a, b = e1, e2, both new lists that will change -/
theorem run_parO {j1 j2 : Nat} (h1 : EvO K w ta δ xs) (h2 : EvO K w tb δ ys) (k : nx ((δ.set j1 (.own true xs)).set j2 (.own true ys))) : Run K w (tPar j1 j2 (tCons ta (tCons tb tNil))) δ nx rt bk ct := fun F0 H0 m F H σ S D x _ _ _ =>
  h1 _ _ _ _ _ _ S _ fun p vs F2 H2 st f np e dp => h2 _ _ _ _ _ _ (S.up st) _ fun p2 vs2 F3 H3 st2 f2 np2 e2 dp2 => by
    have fresh : ∀ (q : Addr), H q = none → ∀ (j2 : Nat) (sj : Slot), δ[j2]? = some sj → sj.mt = true → σ[j2]? ≠ some (some (.ref q)) := fun q np j2 sj ej mj eq => by
      obtain ⟨p', e1, _⟩ := S.ref ej mj
      rw [e1] at eq
      cases eq
      have q := S.ok j2 sj ej
      rw [e1] at q
      cases sj with
      | emp => cases mj
      | d x => cases mj
      | own b xs => obtain ⟨_, _, h1, _, h3, _⟩ := q; cases h1; rw [np] at h3; cases h3
      | gen b' n => obtain ⟨_, h1, _, _, _, _, h3, _⟩ := q; cases h1; rw [np] at h3; cases h3
      | set S' n => obtain ⟨_, h1, _, h3⟩ := q; cases h1; rw [np] at h3; cases h3
    have n2 : H p2 = none := by
      cases q : H p2 with
      | none => rfl
      | some o => rw [st.hs _ _ q] at np2; cases np2
    have ne : p ≠ p2 := fun z => by
      subst z
      rw [e] at np2
      cases np2
    have f3 : F3 p = none := st2.nj p f (by rw [e]; exact fun z => nomatch z)
    have S3 := ((S.up st).up st2).setM j1 (s := .own true xs) ⟨p, vs, rfl, f3, st2.hs _ _ e, da_up st2.ff _ _ dp⟩ rfl (new_loc S np) fun j sj _ ej mj => fresh p np j sj ej mj
    refine ⟨_, _, rfl, x _ F3 H3 _ k (st.ff.trans st2.ff) (S3.setM j2 ⟨p2, vs2, rfl, f2, e2, dp2⟩ rfl (new_loc S n2) fun j sj nj ej mj => ?_)⟩
    by_cases z : j1 = j
    · subst z
      intro q
      by_cases l : j1 < σ.length
      · rw [List.getElem?_set_self l] at q
        cases q
        exact ne rfl
      · rw [List.getElem?_eq_none (by rw [List.length_set]; omega)] at q
        cases q
    · rw [List.getElem?_set_ne z] at ej ⊢
      exact fresh p2 n2 j sj ej mj
theorem Sig.more {F0 H0 F H : Hp} {m : Addr → Prop} {σ : L2.St} (S : Sig K w F0 H0 m F H σ (δ.set i (.gen b n))) (hi : i < δ.length) (l : n ≤ n2) : Sig K w F0 H0 m F H σ (δ.set i (.gen b n2)) := by
  have e0 : (δ.set i (.gen b n))[i]? = some (.gen b n) := List.getElem?_set_self hi
  obtain ⟨g, hg⟩ := S.gadr hi
  obtain ⟨p', e1, f1, a, s, c, hH, b1, b2, b3, b4, b5, b6⟩ := S.ok i _ e0
  rw [hg] at e1
  cases e1
  exact S.turn hi hg (.refl S.fh) ⟨a, s, c, hH, b1, b2, b3, b4, b5, Int.le_trans b6 l⟩
theorem eg_more (h : EvG K w te δ i b n n1 P) (l : n1 ≤ n2) : EvG K w te δ i b n n2 P := fun _ _ _ F H σ g S hi hg Q q => h _ _ _ _ _ _ _ S hi hg Q fun d v F2 H2 p s S2 e => q d v F2 H2 p s (S2.more hi l) e
theorem eg_tupleOf (h : EvG K w ta δ i b n n2 P1) (hr : ∀ x, P1 x → ∃ ds, x = .list ds ∧ P (.tuple ds)) : EvG K w (tCB (rTupOf K) (tCons ta tNil)) δ i b n n2 P := fun _ _ _ F H σ g S hi hg Q q =>
  h _ _ _ _ _ _ _ S hi hg _ fun d v F2 H2 p s S2 e => by
    obtain ⟨ds, rfl, pd⟩ := hr d p
    obtain ⟨a, vs, rfl, hs, hd⟩ := dp_list e
    exact ⟨a, vs, rfl, .inl ⟨S2.fh.seq hs, fun l hl => q (.tuple ds) (.ref l) (upd F2 l (.tup vs)) _ pd (s.trans (stp_frz S2.fh hl)) (S2.up (.frz S2.fh hl)) (.tup (.inl (.inl upd_same)) (da_up (same_new (S2.fh.free hl)) _ _ hd))⟩⟩
theorem eg_catT (h : EvG K w ta δ i b n n1 P1) (h2 : EvG K w tb δ i b n1 n2 P2) (hr : ∀ x y, P1 x → P2 y → ∃ xs ys, x = .tuple xs ∧ y = .tuple ys ∧ xs.length + ys.length ≤ 100000 ∧ P (.tuple (xs ++ ys))) : EvG K w (tOp (rCatA K) ta tb) δ i b n n2 P := fun _ _ _ F H σ g S hi hg Q q =>
  h _ _ _ _ _ _ _ S hi hg _ fun x v F2 H2 p s S2 e => h2 _ _ _ _ _ _ _ S2 hi hg _ fun y u F3 H3 p2 s2 S3 e2 => by
    obtain ⟨xs, ys, rfl, rfl, hl, pd⟩ := hr x y p p2
    obtain ⟨a, vs, rfl, hs, hd⟩ := dp_tuple (dp_up s2.ff _ _ e)
    obtain ⟨c, us, rfl, hs2, hd2⟩ := dp_tuple e2
    refine ⟨a, c, vs, us, rfl, rfl, sqt_up S3.fh hs, sqt_up S3.fh hs2, by rw [da_len hd, da_len hd2]; exact small_line hl, fun z => ?_, fun z z2 => ?_, fun z z2 p hp => ?_⟩
    · subst z
      cases hd
      exact q _ _ F3 H3 pd (s.trans s2) S3 e2
    · subst z2
      cases hd2
      rw [List.append_nil] at pd
      exact q _ _ F3 H3 pd (s.trans s2) S3 (dp_up s2.ff _ _ e)
    · exact q _ _ (upd F3 p (.tup (vs ++ us))) _ pd ((s.trans s2).trans (stp_frz S3.fh hp)) (S3.up (.frz S3.fh hp)) (.tup (.inl (.inl upd_same)) (da_up (same_new (S3.fh.free hp)) _ _ (da_app hd hd2)))
/-- what a comprehension that draws may give -/
inductive LcR (kp : PD → PD → Prop) (sk : PD → Prop) : List PD → List PD → Prop where
  | nil : LcR kp sk [] []
  | keep {x e : PD} {xs es : List PD} : LcR kp sk xs es → kp x e → LcR kp sk (xs ++ [x]) (es ++ [e])
  | skip {x : PD} {xs es : List PD} : LcR kp sk xs es → sk x → LcR kp sk (xs ++ [x]) es
theorem LcR.len {kp : PD → PD → Prop} {sk : PD → Prop} {xs es : List PD} (h : LcR kp sk xs es) : es.length ≤ xs.length := by
  induction h with
  | nil => exact Nat.le_refl _
  | keep _ _ ih => rw [List.length_append, List.length_append]; exact Nat.succ_le_succ ih
  | skip _ _ ih => rw [List.length_append]; exact Nat.le_succ_of_le ih
theorem set_two {α : Type} {l : List α} {i v : Nat} {x y : α} (h : i ≠ v) : (l.set i x).set v y = (l.set v y).set i x := by
  rw [List.set_comm _ _ h]
theorem eg_lc {v : Nat} {k : Int} {kp : PD → PD → Prop} {sk : PD → Prop} (hi : ItD K w wi (δ.set i (.gen b n)) ds) (hk : 0 ≤ k) (iv : i ≠ v) (hl : ds.length ≤ 100000)
    (hs : ∀ (j : Nat) (x : PD), ds[j]? = some x → ∃ (k1 : Int) (PB : Bool → Prop), k1 ≤ k ∧ TsG K w tt (δ.set v (.d x)) i b (n + k * j) (n + k * j + k1) PB ∧ (PB true → EvG K w te (δ.set v (.d x)) i b (n + k * j + k1) (n + k * j + k) (kp x)) ∧ (PB false → sk x)) :
    EvG K w (tLc wi (gName v) tt te [v]) δ i b n (n + k * ds.length) (fun d => ∃ es, d = .list es ∧ LcR kp sk ds es) := fun F0 H0 m F H σ g S il hg Q q =>
  hi _ _ _ _ _ _ S _ fun J F2 H2 s Y => fun D nD => by
    have f2 : F2 D = none := s.fh.free nD
    have eg0 : (δ.set i (.gen b n))[i]? = some (.gen b n) := List.getElem?_set_self il
    have gD : D ≠ g := fun z => by
      obtain ⟨p', e1, f1, a, s', c, hH, _⟩ := (S.up s).ok i _ eg0
      rw [hg] at e1
      cases e1
      rw [← z, nD] at hH
      cases hH
    refine ⟨fun j r H' => r = ds.length - j ∧ j ≤ ds.length ∧ ∃ F' acc es, Stp (fun a => a = g) F2 H2 F' H' ∧ Sig K w F0 H0 m F' H' σ (δ.set i (.gen b (n + k * j))) ∧ F' D = none ∧ H' D = some (.lst acc) ∧ DpAll K F' acc es ∧ LcR kp sk (ds.take j) es, ⟨ds.length, by omega, Nat.zero_le _, F2, [], [], .mk1 s.fh nD, ?_, f2, upd_same, .nil, .nil⟩, ?_⟩
    · rw [Int.natCast_zero, Int.mul_zero, Int.add_zero]
      exact (S.up s).up (.mk1 s.fh nD)
    rintro j r H' ⟨rfl, hj, F', acc, es, st, S', fD, hD, hd, lr⟩
    have y := Y F' H' st.ff st.fh j
    by_cases z : j < ds.length
    · refine .inr ?_
      have ex : ds[j]? = some ds[j] := List.getElem?_eq_getElem z
      obtain ⟨g1, g2⟩ := y.1 _ ex
      have e1 : n + k * ((j + 1 : Nat) : Int) = n + k * j + k := by rw [Int.natCast_add, Int.mul_add]; omega
      refine ⟨g1, fun H' => j + 1 ≤ ds.length ∧ ∃ F' acc es, Stp (fun a => a = g) F2 H2 F' H' ∧ Sig K w F0 H0 m F' H' σ (δ.set i (.gen b (n + k * (j + 1 : Nat)))) ∧ F' D = none ∧ H' D = some (.lst acc) ∧ DpAll K F' acc es ∧ LcR kp sk (ds.take (j + 1)) es, fun H' h' => ⟨ds.length - (j + 1), by omega, rfl, h'⟩, fun x H3 yy => ?_⟩
      obtain ⟨F3, s3, e3⟩ := g2 x H3 yy
      obtain ⟨k1, PB, hk1, tg, h1, h2⟩ := hs j _ ex
      have S3 := S'.up s3
      have S4 := (S3.drop v none).setD v e3
      have e4 : ((δ.set i (.gen b (n + k * j))).set v .emp).set v (.d ds[j]) = (δ.set v (.d ds[j])).set i (.gen b (n + k * j)) := by rw [List.set_set, set_two iv]
      rw [e4] at S4
      have hg4 : ((σ.set v none).set v (some x))[i]? = some (some (.ref g)) := by rw [List.set_set, List.getElem?_set_ne iv.symm]; exact hg
      have il4 : i < (δ.set v (.d ds[j])).length := by rw [List.length_set]; exact il
      refine ⟨by show (((σ.set v none).set v (some x)).set v none) = σ.set v none; rw [List.set_set, List.set_set], tg _ _ _ _ _ _ _ S4 il4 hg4 _ fun bb F4 H4 pb s4 S5 => ?_⟩
      have D3 : H3 D = some (.lst acc) := s3.hs _ _ hD
      have n3 : F3 D = none := s3.nj D fD (by rw [hD]; exact fun z => nomatch z)
      have D4 : H4 D = some (.lst acc) := s4.hh _ _ gD D3
      have n4 : F4 D = none := s4.nj D n3 (by rw [D3]; exact fun z => nomatch z)
      have gat : ∀ {F5 H5 : Hp} {n5 : Int}, Sig K w F0 H0 m F5 H5 ((σ.set v none).set v (some x)) ((δ.set v (.d ds[j])).set i (.gen b n5)) → GenAt H5 g n5 := fun {F5 H5 n5} S6 => by
        obtain ⟨p', e1, f1, G⟩ := S6.ok i _ (List.getElem?_set_self il4)
        rw [hg4] at e1
        cases e1
        exact G
      cases bb with
      | true =>
        rw [if_pos rfl]
        refine h1 pb _ _ _ _ _ _ _ S5 il4 hg4 _ fun d' v' F5 H5 pd s5 S6 e5 => ?_
        have D5 : H5 D = some (.lst acc) := s5.hh _ _ gD D4
        have n5 : F5 D = none := s5.nj D n4 (by rw [D4]; exact fun z => nomatch z)
        have stA : Stp (fun a => a = g) F2 H2 F5 H5 := ((st.trans s3.wk).trans s4).trans s5
        have stB : Stp (fun a => a = g) F2 H2 F5 (upd H5 D (.lst (acc ++ [v']))) := ⟨stA.ff, fun b' o' eb => by rw [upd_ne (ne_of_none eb n5)]; exact S6.fh b' o' eb, fun a o na ea => by rw [upd_ne (ne_of_none ea nD)]; exact stA.hh a o na ea, stA.nj, fun a na => up_some (stA.hn a na)⟩
        refine ⟨acc, D5, lt_line ?_, z, F5, acc ++ [v'], es ++ [d'], stB, ?_, n5, upd_same, da_app (da_up ((s3.ff.trans s4.ff).trans s5.ff) _ _ hd) (.cons e5 .nil), ?_⟩
        · rw [da_len hd]
          have := lr.len
          rw [List.length_take] at this
          omega
        · rw [e1]
          obtain ⟨a, s', c, hH, bds⟩ := gat S6
          exact (S.up s).turn il hg stB ⟨a, s', c, by rw [upd_ne gD.symm]; exact hH, bds⟩
        · rw [take_more ex]
          exact .keep lr pd
      | false =>
        rw [if_neg Bool.false_ne_true]
        refine ⟨z, F4, acc, es, (st.trans s3.wk).trans s4, ?_, n4, D4, da_up (s3.ff.trans s4.ff) _ _ hd, ?_⟩
        · rw [e1]
          exact ((S.up s).turn il hg ((st.trans s3.wk).trans s4) (gat S5)).more il (by omega)
        · rw [take_more ex]
          exact .skip lr (h2 pb)
    · refine .inl ⟨y.2 (by omega), ?_⟩
      have ej : j = ds.length := by omega
      subst ej
      rw [List.take_length] at lr
      have stF : Stp (fun a => a = g) F2 H2 (upd F' D (.lst acc)) H' := ⟨st.ff.trans (same_new fD), fun b' o' eb => by
          by_cases z : b' = D
          · subst z; rw [upd_same] at eb; cases eb; exact hD
          · rw [upd_ne z] at eb; exact st.fh b' o' eb, st.hh, fun a ea na => by
          rw [upd_ne (fun z => na (by rw [z]; exact nD))]
          exact st.nj a ea na, st.hn⟩
      obtain ⟨p', q1, f1, G⟩ := S'.ok i _ (List.getElem?_set_self il)
      rw [hg] at q1
      cases q1
      exact q (.list es) (.ref D) (upd F' D (.lst acc)) H' ⟨es, rfl, lr⟩ (s.wk.trans stF) ((S.up s).turn il hg stF G) (.lst (.inl (.inl upd_same)) (da_up (same_new fD) _ _ hd))
/-- a, b = e1, e2, drawing -/
theorem run_parG {j1 j2 : Nat} (h : EvGA K w tz δ i b n n2 PA) (hi : i < δ.length) (c : ∀ ds, PA ds → ∃ x y, ds = [x, y] ∧ nx (((δ.set i (.gen b n2)).set j1 (.d x)).set j2 (.d y))) : Run K w (tPar j1 j2 tz) (δ.set i (.gen b n)) nx rt bk ct := fun _ _ _ F H σ S D a _ _ _ => by
  obtain ⟨g, hg⟩ := S.gadr hi
  refine h _ _ _ _ _ _ _ S hi hg _ fun ds vs F2 H2 p s S2 e => ?_
  obtain ⟨x, y, rfl, k⟩ := c ds p
  obtain ⟨v, u, rfl, r1, r2⟩ := da2 e
  exact ⟨v, u, rfl, a _ F2 H2 _ k s.ff ((S2.setD j1 r1).setD j2 r2)⟩
theorem LcR.all {kp : PD → PD → Prop} {xs es : List PD} (h : LcR kp (fun _ => False) xs es) : es.length = xs.length ∧ ∀ (j : Nat) (x : PD), xs[j]? = some x → ∃ e, es[j]? = some e ∧ kp x e := by
  induction h with
  | nil => exact ⟨rfl, fun j x e => by simp at e⟩
  | @keep x e xs es _ hk ih =>
    obtain ⟨l, a⟩ := ih
    refine ⟨by rw [List.length_append, List.length_append, l]; rfl, fun j y ej => ?_⟩
    by_cases z : j < xs.length
    · rw [List.getElem?_append_left z] at ej
      rw [List.getElem?_append_left (by omega)]
      exact a j y ej
    · rw [List.getElem?_append_right (by omega)] at ej
      have lj := (List.getElem?_eq_some_iff.mp ej).1
      have : j = xs.length := by
        rw [List.length_singleton] at lj
        omega
      subst this
      rw [Nat.sub_self] at ej
      cases ej
      refine ⟨e, ?_, hk⟩
      rw [List.getElem?_append_right (by omega), l, Nat.sub_self]
      rfl
  | skip _ h _ => exact h.elim
end
end MU

namespace MU
open PySem PySem.Spec L2
section
variable {K : PySem.W.Frag} {w : World} {δ δ' : List Slot} {te ta tb : TE} {tt : TT} {t u : TS} {tz : TA} {d x y : PD} {ds es xs ys : List PD}
/-! isinstance -/
def tyD : PD → String
  | .none => "NoneType"
  | .bool _ => "bool"
  | .int _ => "int"
  | .str _ => "str"
  | .list _ => "list"
  | .tuple _ => "tuple"
  | .dict _ => "dict"
def isIntD : PD → Bool
  | .bool _ => true
  | .int _ => true
  | _ => false
def isBoolD : PD → Bool
  | .bool _ => true
  | _ => false
def isTupD : PD → Bool
  | .tuple _ => true
  | _ => false
def isLstD : PD → Bool
  | .list _ => true
  | _ => false
theorem tyx_of {H : Hp} {v : V} (h : Dp K H v d) : TyX K H v (.type (tyD d)) := by
  cases h with
  | non => exact .base .non
  | bl b => exact .base (.bl b)
  | int b => exact .base (.int b)
  | str b => exact .base (.str b)
  | lst h1 h2 =>
    rcases h1 with (e | ⟨o, e⟩) | ⟨o, its, n, e, c, _⟩
    · exact .base (.lst e)
    · exact .base (.frz e)
    · exact .kList e c
  | tup h1 h2 =>
    rcases h1 with (e | ⟨o, e⟩) | ⟨o, its, n, e, c, _⟩
    · exact .base (.tup e)
    · exact .fTuple e
    · exact .kTuple e c
theorem ev_isi {c : String} {b : Bool} (ha : RdD K w ta δ d) (hk : kitB (tyD d) c = some b) : EvD K w (tCB (rIsi K) (tCons ta (tCons (tC (.ty c)) tNil))) δ (.bool b) := fun _ _ _ F H σ S Q q =>
  ha _ _ _ _ _ _ S _ fun v F2 H2 s e => ⟨v, .ty c, .type (tyD d), .type c, b, rfl, .ty c, tyx_of e, kit_ty hk, q _ F2 H2 s (.bl b)⟩
theorem kit_int : kitB (tyD d) "int" = some (isIntD d) := by
  cases d
  · exact (by decide +kernel : kitB "NoneType" "int" = some false)
  · exact (by decide +kernel : kitB "bool" "int" = some true)
  · exact (by decide +kernel : kitB "int" "int" = some true)
  · exact (by decide +kernel : kitB "str" "int" = some false)
  · exact (by decide +kernel : kitB "list" "int" = some false)
  · exact (by decide +kernel : kitB "tuple" "int" = some false)
  · exact (by decide +kernel : kitB "dict" "int" = some false)
theorem kit_bool : kitB (tyD d) "bool" = some (isBoolD d) := by
  cases d
  · exact (by decide +kernel : kitB "NoneType" "bool" = some false)
  · exact (by decide +kernel : kitB "bool" "bool" = some true)
  · exact (by decide +kernel : kitB "int" "bool" = some false)
  · exact (by decide +kernel : kitB "str" "bool" = some false)
  · exact (by decide +kernel : kitB "list" "bool" = some false)
  · exact (by decide +kernel : kitB "tuple" "bool" = some false)
  · exact (by decide +kernel : kitB "dict" "bool" = some false)
theorem kit_tup : kitB (tyD d) "tuple" = some (isTupD d) := by
  cases d
  · exact (by decide +kernel : kitB "NoneType" "tuple" = some false)
  · exact (by decide +kernel : kitB "bool" "tuple" = some false)
  · exact (by decide +kernel : kitB "int" "tuple" = some false)
  · exact (by decide +kernel : kitB "str" "tuple" = some false)
  · exact (by decide +kernel : kitB "list" "tuple" = some false)
  · exact (by decide +kernel : kitB "tuple" "tuple" = some true)
  · exact (by decide +kernel : kitB "dict" "tuple" = some false)
theorem kit_lst : kitB (tyD d) "list" = some (isLstD d) := by
  cases d
  · exact (by decide +kernel : kitB "NoneType" "list" = some false)
  · exact (by decide +kernel : kitB "bool" "list" = some false)
  · exact (by decide +kernel : kitB "int" "list" = some false)
  · exact (by decide +kernel : kitB "str" "list" = some false)
  · exact (by decide +kernel : kitB "list" "list" = some true)
  · exact (by decide +kernel : kitB "tuple" "list" = some false)
  · exact (by decide +kernel : kitB "dict" "list" = some false)
/-! texts of ints -/
abbrev rStrI : List V → Hp → VK → Prop := fun xs H Q => ∃ i : Int, xs = [.int i] ∧ i.natAbs.log2 < 1920 ∧ Q (.str (toString i)) H
theorem ev_strI {i : Int} (ha : RdD K w ta δ (.int i)) (h : i.natAbs.log2 < 1920) : EvD K w (tCB rStrI (tCons ta tNil)) δ (.str (toString i)) :=
  rd_call (ra_cons ha ra_nil) (fun H => .str _) fun H vs h' Q q => by
    obtain ⟨v, rfl, r⟩ := da1 h'
    cases r
    exact ⟨i, rfl, h, q⟩
end
/-! the rules with the written part named: within a comprehension's block too -/
section
variable {X : Cx} {K : PySem.W.Frag} {w : World} {tg : Expr}
theorem k_eq (hu : X.A.units + 64 < cLine) (e : X.K = K := by rfl) : OpR X (compareOp .Eq) (rEqD K) := by subst e; exact op_eqD hu
theorem k_ne (hu : X.A.units + 64 < cLine) (e : X.K = K := by rfl) : OpR X (compareOp .NotEq) (rNeD K) := by subst e; exact op_neD hu
theorem k_in (e : X.K = K := by rfl) : OpR X (compareOp .In) (rIn K false) := by subst e; exact op_in_seq
theorem k_notin (e : X.K = K := by rfl) : OpR X (compareOp .NotIn) (rIn K true) := by subst e; exact op_notIn_seq
theorem k_ixL (e : X.K = K := by rfl) : IxR X (rIxL K) := by subst e; exact ix_list
theorem k_ixT (e : X.K = K := by rfl) : IxR X (rIxT K) := by subst e; exact ix_tup
theorem k_slL (e : X.K = K := by rfl) : SlR X (rSlL K) := by subst e; exact sl_list
theorem k_slT (e : X.K = K := by rfl) : SlR X (rSlA K) := by subst e; exact sl_tupA
theorem k_len (e : X.K = K := by rfl) : CallR X (.builtin "len") (rLen K) := by subst e; exact call_len_seq
theorem k_list (e : X.K = K := by rfl) : CallR X (.type "list") (rLstOf K) := by subst e; exact call_list_of
theorem k_tuple (e : X.K = K := by rfl) : CallR X (.type "tuple") (rTupOf K) := by subst e; exact call_tuple_of
theorem k_isi (e : X.K = K := by rfl) : CallR X (.builtin "isinstance") (rIsi K) := by subst e; exact call_isi
theorem k_sorted (e : X.K = K := by rfl) : CallR X (.builtin "sorted") (rSortedI K) := by subst e; exact cr_sortedI
theorem k_sum (hc : X.calm = true) (e : X.K = K := by rfl) : CallR X (.builtin "sum") (rSum K) := by subst e; exact cr_sum hc
theorem k_catL (e : X.K = K := by rfl) : OpR X (binaryOp .Add) (rCatL K) := by subst e; exact op_catL
theorem k_catT (e : X.K = K := by rfl) : OpR X (binaryOp .Add) (rCatA K) := by subst e; exact op_catA
theorem k_pil {l : Expr} {tl : TE} (hl : PE X l tl) (e : X.K = K := by rfl) : PI X tg l (iList K tl) := by subst e; exact pi_list hl
theorem k_pit {l : Expr} {tl : TE} (hl : PE X l tl) (e : X.K = K := by rfl) : PI X tg l (iTup K tl) := by subst e; exact pi_tup hl
theorem k_sin (e : X.w = w := by rfl) : OpR X (compareOp .In) (rSIn w) := by subst e; exact or_sin
theorem k_snotin (e : X.w = w := by rfl) : OpR X (compareOp .NotIn) (rSNotIn w) := by subst e; exact or_snotin
theorem k_sortedSet (hc : X.calm = true) (e : X.w = w := by rfl) : CallR X (.builtin "sorted") (rSortedSet w) := by subst e; exact cr_sortedSet hc
end
end MU

namespace MU
open PySem PySem.Spec L2
/-! ## charts -/
/-- t tells for post k + 1 the post directly above -/
def Chart (t : List Nat) : Prop := ∀ k p : Nat, t[k]? = some p → p ≤ k
def chartD (t : List Nat) : PD := .tuple (.none :: t.map fun n : Nat => .int n)
abbrev chartL (t : List Nat) : List PD := .none :: t.map fun n : Nat => .int n
theorem chart_len (t : List Nat) : (chartL t).length = t.length + 1 := by simp
theorem at_nat {xs : List PD} {j : Nat} {d : PD} (h : xs[j]? = some d) : atI xs (j : Int) = some d := by
  unfold atI ixN
  have l := (List.getElem?_eq_some_iff.mp h).1
  rw [if_pos (by omega), if_pos (by omega)]
  show xs[(j : Int).toNat]? = some d
  rw [Int.toNat_natCast]
  exact h
theorem ixN_nat {n j : Nat} (h : j < n) : ixN n (j : Int) = some j := by
  unfold ixN
  rw [if_pos (by omega), if_pos (by omega), Int.toNat_natCast]
theorem at_last {xs : List PD} {d : PD} : atI (xs ++ [d]) (-1) = some d := by
  unfold atI ixN
  rw [List.length_append, List.length_singleton, if_neg (by omega), if_pos (by omega)]
  show (xs ++ [d])[((-1 : Int) + (xs.length + 1 : Nat)).toNat]? = some d
  have e : ((-1 : Int) + (xs.length + 1 : Nat)).toNat = xs.length := by omega
  rw [e]
  simp
theorem chart_at0 (t : List Nat) : (chartL t)[0]? = some .none := rfl
theorem chart_at {t : List Nat} {k p : Nat} (h : t[k]? = some p) : (chartL t)[k + 1]? = some (.int p) := by
  show (t.map fun n : Nat => PyData.int n)[k]? = some (.int p)
  rw [List.getElem?_map, h]
  rfl
theorem chart_has {t : List Nat} {j : Nat} (h : 0 < j) (l : j < t.length + 1) : ∃ p, t[j - 1]? = some p := ⟨_, List.getElem?_eq_getElem (by omega)⟩
/-- the posts from the head down to j -/
def way (t : List Nat) (j : Nat) : List Nat :=
  if h : 0 < j ∧ t.getD (j - 1) 0 < j then way t (t.getD (j - 1) 0) ++ [j] else [j]
termination_by j
decreasing_by exact h.2
theorem way_zero (t : List Nat) : way t 0 = [0] := by
  rw [way, dif_neg (fun z => Nat.lt_irrefl 0 z.1)]
theorem way_succ {t : List Nat} {j p : Nat} (h : t[j]? = some p) (hp : p ≤ j) : way t (j + 1) = way t p ++ [j + 1] := by
  have e : t.getD (j + 1 - 1) 0 = p := by rw [Nat.add_sub_cancel, List.getD_eq_getElem?_getD, h]; rfl
  rw [way, dif_pos (by rw [e]; omega), e]
theorem way_step {t : List Nat} (c : Chart t) {j p : Nat} (h0 : 0 < j) (h : t[j - 1]? = some p) : way t j = way t p ++ [j] ∧ p < j := by
  have q := c _ _ h
  obtain ⟨k, rfl⟩ : ∃ k, j = k + 1 := ⟨j - 1, by omega⟩
  rw [Nat.add_sub_cancel] at h q
  exact ⟨way_succ h q, by omega⟩
theorem way_le {t : List Nat} (c : Chart t) : ∀ (j : Nat), j < t.length + 1 → ∀ x ∈ way t j, x ≤ j := by
  intro j
  induction j using Nat.strongRecOn with
  | ind j ih =>
    intro l x hx
    by_cases h0 : 0 < j
    · obtain ⟨p, hp⟩ := chart_has h0 l
      obtain ⟨e, lt⟩ := way_step c h0 hp
      rw [e] at hx
      rcases List.mem_append.mp hx with q | q
      · exact Nat.le_of_lt (Nat.lt_of_le_of_lt (ih p lt (by omega) x q) lt)
      · rw [List.mem_singleton.mp q]; exact Nat.le_refl _
    · have : j = 0 := by omega
      subst this
      rw [way_zero] at hx
      rw [List.mem_singleton.mp hx]
      exact Nat.le_refl _
theorem way_self {t : List Nat} (j : Nat) : j ∈ way t j := by
  rw [way]
  split
  · exact List.mem_append_right _ (List.mem_singleton.mpr rfl)
  · exact List.mem_singleton.mpr rfl
theorem way_len {t : List Nat} (c : Chart t) : ∀ (j : Nat), j < t.length + 1 → (way t j).length ≤ j + 1 := by
  intro j
  induction j using Nat.strongRecOn with
  | ind j ih =>
    intro l
    by_cases h0 : 0 < j
    · obtain ⟨p, hp⟩ := chart_has h0 l
      obtain ⟨e, lt⟩ := way_step c h0 hp
      rw [e, List.length_append, List.length_singleton]
      have := ih p lt (by omega)
      omega
    · have : j = 0 := by omega
      subst this
      rw [way_zero]
      exact Nat.le_refl _
/-- the posts below q -/
def belowL (t : List Nat) (q : Nat) : List Nat := (List.range (t.length + 1)).filter fun j => decide (q ∈ way t j)
theorem below_mem {t : List Nat} {q j : Nat} : j ∈ belowL t q ↔ j < t.length + 1 ∧ q ∈ way t j := by
  unfold belowL
  rw [List.mem_filter, List.mem_range, decide_eq_true_eq]
def intsD (l : List Nat) : List PD := l.map fun n : Nat => .int n
theorem intsD_eq (l : List Nat) : intsD l = (l.map fun n : Nat => (n : Int)).map PyData.int := by unfold intsD; rw [List.map_map]; rfl
theorem cast_lt {l : List Nat} (h : l.Pairwise (· < ·)) : (l.map fun n : Nat => (n : Int)).Pairwise (· < ·) := List.pairwise_map.mpr (h.imp fun {a b} h => by omega)
theorem below_sorted (t : List Nat) (q : Nat) : (belowL t q).Pairwise (· < ·) := List.Pairwise.filter _ List.pairwise_lt_range
/-- the last post that both ways have -/
def comL (t : List Nat) (a b : Nat) : List Nat := (way t a).filter fun x => decide (x ∈ way t b)
theorem com_self (t : List Nat) (a : Nat) : comL t a a = way t a := List.filter_eq_self.mpr fun x h => decide_eq_true h
theorem com_left {t : List Nat} (c : Chart t) {a b p : Nat} (h : b < a) (la : a < t.length + 1) (hp : t[a - 1]? = some p) : comL t a b = comL t p b := by
  obtain ⟨e, _⟩ := way_step c (by omega) hp
  unfold comL
  rw [e, List.filter_append, List.filter_cons, if_neg, List.filter_nil, List.append_nil]
  intro z
  have := way_le c b (by omega) a (of_decide_eq_true z)
  omega
theorem com_right {t : List Nat} (c : Chart t) {a b p : Nat} (h : a < b) (lb : b < t.length + 1) (hp : t[b - 1]? = some p) : comL t a b = comL t a p := by
  obtain ⟨e, _⟩ := way_step c (by omega) hp
  unfold comL
  refine List.filter_congr fun x hx => ?_
  have := way_le c a (by omega) x hx
  rw [e]
  refine decide_eq_decide.mpr ⟨fun z => ?_, fun z => List.mem_append_left _ z⟩
  rcases List.mem_append.mp z with q | q
  · exact q
  · rw [List.mem_singleton] at q
    omega
theorem way_last (t : List Nat) (a : Nat) : (way t a).getLast? = some a := by
  rw [way]
  split
  · rw [List.getLast?_append]
    rfl
  · rfl
theorem way_sorted {t : List Nat} (c : Chart t) : ∀ (j : Nat), j < t.length + 1 → (way t j).Pairwise (· < ·) := by
  intro j
  induction j using Nat.strongRecOn with
  | ind j ih =>
    intro l
    by_cases h0 : 0 < j
    · obtain ⟨p, hp⟩ := chart_has h0 l
      obtain ⟨e, lt⟩ := way_step c h0 hp
      rw [e]
      refine List.pairwise_append.mpr ⟨ih p lt (by omega), List.pairwise_singleton _ _, fun x hx y hy => ?_⟩
      rw [List.mem_singleton] at hy
      subst hy
      exact Nat.lt_of_le_of_lt (way_le c p (by omega) x hx) lt
    · have : j = 0 := by omega
      subst this
      rw [way_zero]
      exact List.pairwise_singleton _ _
theorem way_head {t : List Nat} (c : Chart t) : ∀ (j : Nat), j < t.length + 1 → 0 ∈ way t j := by
  intro j
  induction j using Nat.strongRecOn with
  | ind j ih =>
    intro l
    by_cases h0 : 0 < j
    · obtain ⟨p, hp⟩ := chart_has h0 l
      obtain ⟨e, lt⟩ := way_step c h0 hp
      rw [e]
      exact List.mem_append_left _ (ih p lt (by omega))
    · have : j = 0 := by omega
      subst this
      exact way_self 0
theorem com_symm {t : List Nat} (c : Chart t) {a b : Nat} (la : a < t.length + 1) (lb : b < t.length + 1) : comL t b a = comL t a b := by
  have m : ∀ a b x, x ∈ comL t a b ↔ x ∈ way t a ∧ x ∈ way t b := fun a b x => by unfold comL; rw [List.mem_filter, decide_eq_true_eq]
  have s : ∀ a b, a < t.length + 1 → (comL t a b).Pairwise (· < ·) := fun a b la => List.Pairwise.filter _ (way_sorted c a la)
  refine List.Perm.eq_of_pairwise (le := (· < ·)) (fun a b _ _ h h' => absurd (Nat.lt_trans h h') (Nat.lt_irrefl _)) (s b a lb) (s a b la) ?_
  exact (List.perm_ext_iff_of_nodup ((s b a lb).imp fun h => Nat.ne_of_lt h) ((s a b la).imp fun h => Nat.ne_of_lt h)).mpr fun x => by rw [m, m]; exact And.comm
theorem com_some {t : List Nat} (c : Chart t) {a b : Nat} (la : a < t.length + 1) (lb : b < t.length + 1) : ∃ z, (comL t a b).getLast? = some z ∧ z < t.length + 1 := by
  have h0 : 0 ∈ comL t a b := by unfold comL; rw [List.mem_filter, decide_eq_true_eq]; exact ⟨way_head c a la, way_head c b lb⟩
  cases e : (comL t a b).getLast? with
  | none => rw [List.getLast?_eq_none_iff] at e; rw [e] at h0; cases h0
  | some z =>
    have := List.mem_of_getLast? e
    unfold comL at this
    have := way_le c a la z (List.mem_filter.mp this).1
    exact ⟨z, rfl, by omega⟩
/-! data that may be compared -/
def Shp (n : Nat) (d : PD) : Prop := d.canLay0 = true ∧ d.depth ≤ n
theorem shp_mono {n m : Nat} {d : PD} (h : Shp n d) (l : n ≤ m) : Shp m d := ⟨h.1, Nat.le_trans h.2 l⟩
theorem shp_none {n : Nat} : Shp n .none := ⟨rfl, Nat.zero_le _⟩
theorem shp_int {n : Nat} {i : Int} : Shp n (.int i) := ⟨rfl, Nat.zero_le _⟩
theorem shp_bool {n : Nat} {b : Bool} : Shp n (.bool b) := ⟨rfl, Nat.zero_le _⟩
theorem shp_all {n : Nat} : ∀ {xs : List PD}, (∀ x ∈ xs, Shp n x) → PyData.canLayAll0 xs = true ∧ PyData.depthAll xs ≤ n
  | [], _ => ⟨rfl, Nat.zero_le _⟩
  | x :: xs, h => by
    obtain ⟨a, b⟩ := shp_all (xs := xs) fun y hy => h y (List.mem_cons_of_mem _ hy)
    obtain ⟨c, e⟩ := h x List.mem_cons_self
    refine ⟨?_, Nat.max_le.mpr ⟨e, b⟩⟩
    show (x.canLay0 && PyData.canLayAll0 xs) = true
    rw [c, a]
    rfl
theorem shp_list {n : Nat} {xs : List PD} (h : ∀ x ∈ xs, Shp n x) : Shp (n + 1) (.list xs) := by
  obtain ⟨a, b⟩ := shp_all h
  exact ⟨a, Nat.succ_le_succ b⟩
theorem shp_tuple {n : Nat} {xs : List PD} (h : ∀ x ∈ xs, Shp n x) : Shp (n + 1) (.tuple xs) := by
  obtain ⟨a, b⟩ := shp_all h
  exact ⟨a, Nat.succ_le_succ b⟩
theorem shp_ok {n : Nat} {d : PD} (h : Shp n d) (l : n ≤ 64 := by decide) : SeqAt.shaped d = true := by
  unfold SeqAt.shaped
  rw [h.1, decide_eq_true (Nat.le_trans h.2 l)]
  rfl
theorem shp_ints (l : List Nat) : Shp 1 (.list (intsD l)) := shp_list fun x h => by
  unfold intsD at h
  obtain ⟨n, _, rfl⟩ := List.mem_map.mp h
  exact shp_int
mutual
theorem eqv_self : ∀ {d : PD}, d.canLay0 = true → PyData.eqv d d = true
  | .none, _ => rfl
  | .bool b, _ => by simp [PyData.eqv]
  | .int i, _ => by simp [PyData.eqv]
  | .str x, _ => by simp [PyData.eqv]
  | .list xs, h => by
    show PyData.eqvAll xs xs = true
    exact eqvs_self (xs := xs) h
  | .tuple xs, h => by
    show PyData.eqvAll xs xs = true
    exact eqvs_self (xs := xs) h
  | .dict _, h => by cases h
theorem eqvs_self : ∀ {xs : List PD}, PyData.canLayAll0 xs = true → PyData.eqvAll xs xs = true
  | [], _ => rfl
  | x :: xs, h => by
    have h' : (x.canLay0 && PyData.canLayAll0 xs) = true := h
    rw [Bool.and_eq_true] at h'
    show (PyData.eqv x x && PyData.eqvAll xs xs) = true
    rw [eqv_self h'.1, eqvs_self h'.2]
    rfl
end
theorem eq_same {n : Nat} {d e : PD} (s : Shp n d) (h : d = e) : PyData.eqv d e = true := by
  subst h
  exact eqv_self s.1
theorem any_ints (l : List Nat) (q : Nat) : ((intsD l).any fun z => PyData.eqv z (.int q)) = decide (q ∈ l) := by
  induction l with
  | nil => rfl
  | cons a l ih =>
    unfold intsD at ih ⊢
    rw [List.map_cons, List.any_cons, ih]
    have e : PyData.eqv (.int (a : Int)) (.int (q : Int)) = decide (q = a) := by
      show ((a : Int) == (q : Int)) = decide (q = a)
      by_cases h : q = a
      · subst h; simp
      · rw [decide_eq_false h]
        exact beq_eq_false_iff_ne.mpr fun z => h (by omega)
    rw [e]
    by_cases h : q = a
    · subst h; simp
    · simp [h]
theorem flat_ints (l : List Nat) : (intsD l).all flatD = true := by
  rw [List.all_eq_true]
  intro x h
  unfold intsD at h
  obtain ⟨n, _, rfl⟩ := List.mem_map.mp h
  rfl
theorem sc_ints (l : List Nat) : ∀ d ∈ intsD l, (scV d).isSome = true := fun d h => by
  unfold intsD at h
  obtain ⟨n, _, rfl⟩ := List.mem_map.mp h
  rfl
theorem at_getLast {l : List Nat} {c : Nat} (h : l.getLast? = some c) : atI (intsD l) (-1) = some (.int c) := by
  obtain ⟨ys, rfl⟩ := List.getLast?_eq_some_iff.mp h
  unfold intsD
  rw [List.map_append]
  exact at_last
/-- [j for j in range(n) if p j] -/
theorem filt_range (n : Nat) (p : Nat → Bool) (f : PD → Option PD) (hf : ∀ j : Nat, f (.int (j : Int)) = if p j = true then some (.int (j : Int)) else none) : (rngD 0 n).filterMap f = intsD ((List.range n).filter p) := by
  unfold rngD intsD
  rw [List.filterMap_map]
  induction List.range n with
  | nil => rfl
  | cons a l ih =>
    rw [List.filterMap_cons, List.filter_cons]
    have ef : (f ∘ fun k : Nat => PyData.int (0 + (k : Int))) a = if p a = true then some (.int (a : Int)) else none := by
      show f (.int (0 + (a : Int))) = _
      rw [Int.zero_add, hf]
    rw [ef]
    by_cases h : p a = true
    · rw [if_pos h, if_pos h, List.map_cons, ← ih]
    · rw [if_neg h, if_neg h, ← ih]
theorem filt_ints (l : List Nat) (p : Nat → Bool) (f : PD → Option PD) (hf : ∀ j : Nat, f (.int (j : Int)) = if p j = true then some (.int (j : Int)) else none) : (intsD l).filterMap f = intsD (l.filter p) := by
  unfold intsD
  rw [List.filterMap_map]
  induction l with
  | nil => rfl
  | cons a l ih =>
    rw [List.filterMap_cons, List.filter_cons]
    have ef : (f ∘ fun n : Nat => PyData.int n) a = if p a = true then some (.int (a : Int)) else none := hf a
    rw [ef]
    by_cases h : p a = true
    · rw [if_pos h, if_pos h, List.map_cons, ← ih]
    · rw [if_neg h, if_neg h, ← ih]
/-- the items whose number has p -/
def selD (p : Nat → Bool) : PD → Option PD
  | .int z => if p z.toNat = true then some (.int z) else none
  | _ => none
theorem sel_at (p : Nat → Bool) (j : Nat) : selD p (.int (j : Int)) = if p j = true then some (.int (j : Int)) else none := by
  show (if p ((j : Int)).toNat = true then some (PyData.int (j : Int)) else none) = _
  rw [Int.toNat_natCast]
theorem ints_at {l : List Nat} {k : Nat} {x : PD} (h : (intsD l)[k]? = some x) : ∃ j, l[k]? = some j ∧ x = .int j := by
  unfold intsD at h
  rw [List.getElem?_map] at h
  cases e : l[k]? with
  | none => rw [e] at h; cases h
  | some j => rw [e] at h; cases h; exact ⟨j, rfl, rfl⟩
theorem char_lt (c : Char) : c.toNat < 0x110000 := by
  rcases c.valid with h | ⟨_, h⟩
  · exact Nat.lt_trans h (by decide)
  · exact h
theorem strOk_of (s : String) : PyData.strOk (Str.ofString s) = true := by
  rw [Str.ofString_eq_toList]
  unfold PyData.strOk
  rw [← Array.all_toList, List.all_eq_true]
  intro x h
  obtain ⟨c, _, rfl⟩ := List.mem_map.mp h
  exact decide_eq_true (char_lt c)
theorem shp_str {n : Nat} (s : String) : Shp n (.str (Str.ofString s)) := ⟨strOk_of s, Nat.zero_le _⟩
theorem filt_none : ∀ l : List PD, (l.filterMap fun _ => (none : Option PD)) = []
  | [] => rfl
  | _ :: l => by rw [List.filterMap_cons]; exact filt_none l
theorem drawn_chart {es : List PD} {n : Nat} (hl : es.length = n) (h : ∀ j : Nat, j < n → ∃ r : Int, es[j]? = some (.int r) ∧ 0 ≤ r ∧ r < 1 + (j : Int)) : ∃ t, Chart t ∧ t.length = n ∧ es = t.map fun n : Nat => PyData.int n := by
  refine ⟨es.map fun d => match d with | .int r => r.toNat | _ => 0, fun k p e => ?_, by rw [List.length_map, hl], ?_⟩
  · rw [List.getElem?_map] at e
    cases q : es[k]? with
    | none => rw [q] at e; cases e
    | some d =>
      have lk := (List.getElem?_eq_some_iff.mp q).1
      obtain ⟨r, e1, r0, r1⟩ := h k (by omega)
      rw [q] at e1 e
      cases e1
      have e' : r.toNat = p := Option.some.inj e
      omega
  · refine List.ext_getElem? fun k => ?_
    rw [List.map_map, List.getElem?_map]
    by_cases lk : k < es.length
    · obtain ⟨r, e1, r0, r1⟩ := h k (by omega)
      rw [e1]
      show some (PyData.int r) = some (PyData.int ((r.toNat : Nat) : Int))
      rw [Int.toNat_of_nonneg r0]
    · rw [List.getElem?_eq_none (by omega)]
      rfl
/-- what is drawn -/
def hash1 (s i : Int) : Int := (s * 1103515245 + 7919 * i * i + i + 1) % 2147483647
def hash2 (m : Int) : Int := (m * m + 69621) % 2147483629
def hashF (s i : Int) : Int := hash2 (hash1 s i) * 48271 % 2147483587
end MU
namespace Law
open PySem PySem.Spec L2 MU

def top (i : Nat) : Stmt := PySem.Challenge.pw_movingup_k03_paths_and_posts.main.body.getD i (.Pass ⟨0, 0, 0, 0⟩)
abbrev s_is_whole : Stmt := top 1
abbrev N_is_whole : List Str := ["value"]
abbrev P_is_whole : List Str := ["value"]
theorem sc_is_whole : FnScope N_is_whole P_is_whole (defScope s_is_whole) := ⟨rfl, rfl, rfl, by decide +kernel, rfl, by decide +kernel, by decide +kernel⟩
abbrev s_is_post : Stmt := top 2
abbrev N_is_post : List Str := ["value", "count"]
abbrev P_is_post : List Str := ["value", "count"]
theorem sc_is_post : FnScope N_is_post P_is_post (defScope s_is_post) := ⟨rfl, rfl, rfl, by decide +kernel, rfl, by decide +kernel, by decide +kernel⟩
abbrev s_check_chart : Stmt := top 8
abbrev N_check_chart : List Str := ["value", "k"]
abbrev P_check_chart : List Str := ["value"]
theorem sc_check_chart : FnScope N_check_chart P_check_chart (defScope s_check_chart) := ⟨rfl, rfl, rfl, by decide +kernel, rfl, by decide +kernel, by decide +kernel⟩
abbrev s_require_chart : Stmt := top 9
abbrev N_require_chart : List Str := ["chart", "reason"]
abbrev P_require_chart : List Str := ["chart"]
theorem sc_require_chart : FnScope N_require_chart P_require_chart (defScope s_require_chart) := ⟨rfl, rfl, rfl, by decide +kernel, rfl, by decide +kernel, by decide +kernel⟩
abbrev s_require_post : Stmt := top 10
abbrev N_require_post : List Str := ["chart", "post"]
abbrev P_require_post : List Str := ["chart", "post"]
theorem sc_require_post : FnScope N_require_post P_require_post (defScope s_require_post) := ⟨rfl, rfl, rfl, by decide +kernel, rfl, by decide +kernel, by decide +kernel⟩
abbrev s_path_to : Stmt := top 11
abbrev N_path_to : List Str := ["chart", "post", "path"]
abbrev P_path_to : List Str := ["chart", "post"]
theorem sc_path_to : FnScope N_path_to P_path_to (defScope s_path_to) := ⟨rfl, rfl, rfl, by decide +kernel, rfl, by decide +kernel, by decide +kernel⟩
abbrev s_posts_below : Stmt := top 12
abbrev N_posts_below : List Str := ["chart", "post", "found", "k"]
abbrev P_posts_below : List Str := ["chart", "post"]
theorem sc_posts_below : FnScope N_posts_below P_posts_below (defScope s_posts_below) := ⟨rfl, rfl, rfl, by decide +kernel, rfl, by decide +kernel, by decide +kernel⟩
abbrev s_common_post : Stmt := top 13
abbrev N_common_post : List Str := ["chart", "a", "b"]
abbrev P_common_post : List Str := ["chart", "a", "b"]
theorem sc_common_post : FnScope N_common_post P_common_post (defScope s_common_post) := ⟨rfl, rfl, rfl, by decide +kernel, rfl, by decide +kernel, by decide +kernel⟩
abbrev s_l_cell : Stmt := top 15
abbrev N_l_cell : List Str := ["_law_script", "_law_index"]
abbrev P_l_cell : List Str := ["_law_script", "_law_index"]
theorem sc_l_cell : FnScope N_l_cell P_l_cell (defScope s_l_cell) := ⟨rfl, rfl, rfl, by decide +kernel, rfl, by decide +kernel, by decide +kernel⟩
abbrev s_l_hash : Stmt := top 16
abbrev N_l_hash : List Str := ["_law_seed", "_law_index", "_law_mixed"]
abbrev P_l_hash : List Str := ["_law_seed", "_law_index"]
theorem sc_l_hash : FnScope N_l_hash P_l_hash (defScope s_l_hash) := ⟨rfl, rfl, rfl, by decide +kernel, rfl, by decide +kernel, by decide +kernel⟩
abbrev s_l_generator : Stmt := top 17
abbrev N_l_generator : List Str := ["_law_script", "_law_index", "_law_seed"]
abbrev P_l_generator : List Str := ["_law_script", "_law_index"]
theorem sc_l_generator : FnScope N_l_generator P_l_generator (defScope s_l_generator) := ⟨rfl, rfl, rfl, by decide +kernel, rfl, by decide +kernel, by decide +kernel⟩
abbrev s_l_random : Stmt := top 18
abbrev N_l_random : List Str := ["_law_generator_here", "_law_bound", "_law_drawn", "_law_part"]
abbrev P_l_random : List Str := ["_law_generator_here", "_law_bound"]
theorem sc_l_random : FnScope N_l_random P_l_random (defScope s_l_random) := ⟨rfl, rfl, rfl, by decide +kernel, rfl, by decide +kernel, by decide +kernel⟩
abbrev s_l_random_chart : Stmt := top 19
abbrev N_l_random_chart : List Str := ["_law_generator_here", "_law_most", "_law_size", "_law_kind", "_law_tree", "_law_place", "_law_upper"]
abbrev P_l_random_chart : List Str := ["_law_generator_here", "_law_most"]
theorem sc_l_random_chart : FnScope N_l_random_chart P_l_random_chart (defScope s_l_random_chart) := ⟨rfl, rfl, rfl, by decide +kernel, rfl, by decide +kernel, by decide +kernel⟩
abbrev s_l_way : Stmt := top 20
abbrev N_l_way : List Str := ["_law_tree", "_law_place", "_law_way_here"]
abbrev P_l_way : List Str := ["_law_tree", "_law_place"]
theorem sc_l_way : FnScope N_l_way P_l_way (defScope s_l_way) := ⟨rfl, rfl, rfl, by decide +kernel, rfl, by decide +kernel, by decide +kernel⟩
abbrev s_l_post_right : Stmt := top 21
abbrev N_l_post_right : List Str := ["_law_tree", "_law_place", "_law_expected", "_law_attempt", "_law_path", "_law_lower", "_law_other"]
abbrev P_l_post_right : List Str := ["_law_tree", "_law_place"]
theorem sc_l_post_right : FnScope N_l_post_right P_l_post_right (defScope s_l_post_right) := ⟨rfl, rfl, rfl, by decide +kernel, rfl, by decide +kernel, by decide +kernel⟩
abbrev s_l_pair_right : Stmt := top 22
abbrev N_l_pair_right : List Str := ["_law_tree", "_law_one", "_law_other", "_law_shared", "_law_place"]
abbrev P_l_pair_right : List Str := ["_law_tree", "_law_one", "_law_other"]
theorem sc_l_pair_right : FnScope N_l_pair_right P_l_pair_right (defScope s_l_pair_right) := ⟨rfl, rfl, rfl, by decide +kernel, rfl, by decide +kernel, by decide +kernel⟩
abbrev s_law : Stmt := top 23
abbrev N_law : List Str := ["_law_script", "_law_index", "_law_generator_here", "_law_tree", "_law_size", "_law_attempt", "_law_one", "_law_other", "_law_place"]
abbrev P_law : List Str := ["_law_script"]
theorem sc_law : FnScope N_law P_law (defScope s_law) := ⟨rfl, rfl, rfl, by decide +kernel, rfl, by decide +kernel, by decide +kernel⟩
/-- what the top has written -/
structure Tx (K : PySem.W.Frag) (mg : Str → Option Value) where
  a_is_whole : Addr
  d_is_whole : FuncData
  f_is_whole : Fun K "is_whole" "is_whole" s_is_whole a_is_whole d_is_whole
  b_is_whole : Binds K d_is_whole P_is_whole []
  m_is_whole : mg "is_whole" = some (.ref a_is_whole)
  a_is_post : Addr
  d_is_post : FuncData
  f_is_post : Fun K "is_post" "is_post" s_is_post a_is_post d_is_post
  b_is_post : Binds K d_is_post P_is_post []
  m_is_post : mg "is_post" = some (.ref a_is_post)
  a_check_chart : Addr
  d_check_chart : FuncData
  f_check_chart : Fun K "check_chart" "check_chart" s_check_chart a_check_chart d_check_chart
  b_check_chart : Binds K d_check_chart P_check_chart []
  m_check_chart : mg "check_chart" = some (.ref a_check_chart)
  a_require_chart : Addr
  d_require_chart : FuncData
  f_require_chart : Fun K "require_chart" "require_chart" s_require_chart a_require_chart d_require_chart
  b_require_chart : Binds K d_require_chart P_require_chart []
  m_require_chart : mg "require_chart" = some (.ref a_require_chart)
  a_require_post : Addr
  d_require_post : FuncData
  f_require_post : Fun K "require_post" "require_post" s_require_post a_require_post d_require_post
  b_require_post : Binds K d_require_post P_require_post []
  m_require_post : mg "require_post" = some (.ref a_require_post)
  a_path_to : Addr
  d_path_to : FuncData
  f_path_to : Fun K "path_to" "path_to" s_path_to a_path_to d_path_to
  b_path_to : Binds K d_path_to P_path_to []
  m_path_to : mg "path_to" = some (.ref a_path_to)
  a_posts_below : Addr
  d_posts_below : FuncData
  f_posts_below : Fun K "posts_below" "posts_below" s_posts_below a_posts_below d_posts_below
  b_posts_below : Binds K d_posts_below P_posts_below []
  m_posts_below : mg "posts_below" = some (.ref a_posts_below)
  a_common_post : Addr
  d_common_post : FuncData
  f_common_post : Fun K "common_post" "common_post" s_common_post a_common_post d_common_post
  b_common_post : Binds K d_common_post P_common_post []
  m_common_post : mg "common_post" = some (.ref a_common_post)
  a_l_cell : Addr
  d_l_cell : FuncData
  f_l_cell : Fun K "_law_cell" "_law_cell" s_l_cell a_l_cell d_l_cell
  b_l_cell : Binds K d_l_cell P_l_cell []
  m_l_cell : mg "_law_cell" = some (.ref a_l_cell)
  a_l_hash : Addr
  d_l_hash : FuncData
  f_l_hash : Fun K "_law_hash" "_law_hash" s_l_hash a_l_hash d_l_hash
  b_l_hash : Binds K d_l_hash P_l_hash []
  m_l_hash : mg "_law_hash" = some (.ref a_l_hash)
  a_l_generator : Addr
  d_l_generator : FuncData
  f_l_generator : Fun K "_law_generator" "_law_generator" s_l_generator a_l_generator d_l_generator
  b_l_generator : Binds K d_l_generator P_l_generator []
  m_l_generator : mg "_law_generator" = some (.ref a_l_generator)
  a_l_random : Addr
  d_l_random : FuncData
  f_l_random : Fun K "_law_random" "_law_random" s_l_random a_l_random d_l_random
  b_l_random : Binds K d_l_random P_l_random []
  m_l_random : mg "_law_random" = some (.ref a_l_random)
  a_l_random_chart : Addr
  d_l_random_chart : FuncData
  f_l_random_chart : Fun K "_law_random_chart" "_law_random_chart" s_l_random_chart a_l_random_chart d_l_random_chart
  b_l_random_chart : Binds K d_l_random_chart P_l_random_chart []
  m_l_random_chart : mg "_law_random_chart" = some (.ref a_l_random_chart)
  a_l_way : Addr
  d_l_way : FuncData
  f_l_way : Fun K "_law_way" "_law_way" s_l_way a_l_way d_l_way
  b_l_way : Binds K d_l_way P_l_way []
  m_l_way : mg "_law_way" = some (.ref a_l_way)
  a_l_post_right : Addr
  d_l_post_right : FuncData
  f_l_post_right : Fun K "_law_post_right" "_law_post_right" s_l_post_right a_l_post_right d_l_post_right
  b_l_post_right : Binds K d_l_post_right P_l_post_right []
  m_l_post_right : mg "_law_post_right" = some (.ref a_l_post_right)
  a_l_pair_right : Addr
  d_l_pair_right : FuncData
  f_l_pair_right : Fun K "_law_pair_right" "_law_pair_right" s_l_pair_right a_l_pair_right d_l_pair_right
  b_l_pair_right : Binds K d_l_pair_right P_l_pair_right []
  m_l_pair_right : mg "_law_pair_right" = some (.ref a_l_pair_right)
  a_law : Addr
  d_law : FuncData
  f_law : Fun K "law" "law" s_law a_law d_law
  b_law : Binds K d_law P_law []
  m_law : mg "law" = some (.ref a_law)
  z_bool : mg "bool" = none
  z_int : mg "int" = none
  z_isinstance : mg "isinstance" = none
  z_len : mg "len" = none
  z_max : mg "max" = none
  z_min : mg "min" = none
  z_range : mg "range" = none
  z_repr : mg "repr" = none
  z_sorted : mg "sorted" = none
  z_str : mg "str" = none
  z_tuple : mg "tuple" = none
section
variable {P : Program} {w : World} {K : PySem.W.Frag} {mg : Str → Option Value} {base : Heap}
def R_is_whole : List PD → PD → Prop := fun ds d => ∃ x, ds = [x] ∧ d = .bool (isIntD x && !isBoolD x)
theorem ok_is_whole (T : Tx K mg) : FnOk P w K mg base CX0 1 T.a_is_whole T.d_is_whole P_is_whole (spS K 1 R_is_whole) := by
  refine fun_okC T.f_is_whole sc_is_whole len_S (fun cdv hkc A outer s H vs Q E hr h => ?_)
  have hkd := kds_of_code hkc
  obtain ⟨F, ds, d, hF, hd, hl, r, k⟩ := h
  obtain ⟨x, rfl, rfl⟩ := r
  refine ⟨_, (pss_one (ps_ret (pe_and (pe_callB (k_isi (K := K)) (by rfl) T.z_isinstance (by decide +kernel) (pa_cons (pv 0) (pa_cons (pe_bltn (v := .ty "int") (by rfl) T.z_int (by decide +kernel) rfl) pa_nil))) (pe_one (pe_not (pe_callB (k_isi (K := K)) (by rfl) T.z_isinstance (by decide +kernel) (pa_cons (pv 0) (pa_cons (pe_bltn (v := .ty "bool") (by rfl) T.z_bool (by decide +kernel) rfl) pa_nil)))))))), run_spS (w := w) hF hd k ?_⟩
  exact run_ret (ev_andV (ev_isi (rd_var rfl) kit_int) fun _ => ev_notV (ev_isi (rd_var rfl) kit_bool)) (.inl rfl)
def R_is_post : List PD → PD → Prop := fun ds d => ∃ i n : Int, ds = [.int i, .int n] ∧ d = .bool (decide (0 ≤ i) && decide (i < n))
theorem ok_is_post (T : Tx K mg) : FnOk P w K mg base CX0 2 T.a_is_post T.d_is_post P_is_post (spS K 2 R_is_post) := by
  refine fun_okC T.f_is_post sc_is_post len_S (fun cdv hkc A outer s H vs Q E hr h => ?_)
  have hkd := kds_of_code hkc
  obtain ⟨F, ds, d, hF, hd, hl, r, k⟩ := h
  obtain ⟨i, n, rfl, rfl⟩ := r
  refine ⟨_, (pss_one (ps_ret (pe_and (pe_call (ok_is_whole T) (hr.mono (by decide)) (by rfl) T.m_is_whole T.f_is_whole.kp T.b_is_whole .nil pass0 (pa_cons (pv 0) pa_nil)) (pe_one (pe_chain op_le op_lt pe_int (pv 0) (pv 1)))))), run_spS (w := w) hF hd k ?_⟩
  exact run_ret (ev_andV (a := true) (ev_call (ea_cons (ev_var rfl) ea_nil) ⟨_, rfl, rfl⟩) fun _ => ev_chain rd_int (rd_var rfl) (rd_var rfl)) (.inl rfl)
def R_check_chart : List PD → PD → Prop := fun ds d => ∃ t, Chart t ∧ t.length < 2000 ∧ ds = [chartD t] ∧ d = .none
theorem ok_check_chart (T : Tx K mg) : FnOk P w K mg base CX0 3 T.a_check_chart T.d_check_chart P_check_chart (spS K 1 R_check_chart) := by
  refine fun_okC T.f_check_chart sc_check_chart len_S (fun cdv hkc A outer s H vs Q E hr h => ?_)
  have hkd := kds_of_code hkc
  obtain ⟨F, ds, d, hF, hd, hl, r, k⟩ := h
  obtain ⟨t, ct, lt, rfl, rfl⟩ := r
  refine ⟨_, (pss_cons (ps_if (PW.pt (pw_or (pt_not (pt_val (pe_callB (k_isi (K := K)) (by rfl) T.z_isinstance (by decide +kernel) (pa_cons (pv 0) (pa_cons (pe_bltn (v := .ty "tuple") (by rfl) T.z_tuple (by decide +kernel) rfl) pa_nil))))) (pw_or (pt_cmpR (k_eq (K := K) hr.units) (pe_callB (k_len (K := K)) (by rfl) T.z_len (by decide +kernel) (pa_cons (pv 0) pa_nil)) pe_int (nomark _)) (pw_or1 (pt_cmpR op_notN (pe_ix (k_ixT (K := K)) (pv 0) pe_int (fun _ _ => rfl)) pe_non (nomark _)))))) (pss_one (ps_ret (pe_tup (pa_cons pe_str pa_nil)))) pss_nil)
      (pss_cons (ps_for PassesOwn.never rfl (pi_range2 (by rfl) T.z_range (pa_cons pe_int (pa_cons (pe_callB (k_len (K := K)) (by rfl) T.z_len (by decide +kernel) (pa_cons (pv 0) pa_nil)) pa_nil))) (pg_name (i := 1) sc_check_chart.nd rfl (by first | exact Or.inl rfl | exact Or.inr rfl))
      (pss_one (ps_if (pt_not (pt_val (pe_call (ok_is_post T) (hr.mono (by decide)) (by rfl) T.m_is_post T.f_is_post.kp T.b_is_post .nil pass0 (pa_cons (pe_ix (k_ixT (K := K)) (pv 0) (pv 1) (fun _ _ => rfl)) (pa_cons (pv 1) pa_nil))))) (pss_one (ps_ret (pe_tup (pa_cons pe_str (pa_cons (pv 1) pa_nil))))) pss_nil)))
      (pss_one (ps_ret pe_non)))), run_spS (w := w) hF hd k ?_⟩
  have l0 : ((chartL t).length : Int) = t.length + 1 := by rw [chart_len]; rfl
  refine run_seq1 (run_no (ts_or (ts_not (ts_val (ev_isi (rd_var rfl) kit_tup))) fun _ => ts_or (ts_cmp (ev_eq (ev_len (rd_var rfl)).rd rd_int rfl rfl)) fun _ => ts_cmp (ev_notN (ev_ixT (ev_var rfl) ev_int (at_nat (chart_at0 t))).rd)) ?_ (run_next rfl)) ?_
  · simp [isTupD, chartD, isNon, PyData.eqv]
    omega
  refine run_seq (mid := fun δ' => ∃ s, δ' = [.d (chartD t), s]) (run_for (it_rng2 rd_int (ev_len (rd_var rfl)).rd (by rw [l0]; omega)) (fun _ δ' => ∃ s, δ' = [.d (chartD t), s]) ⟨_, rfl⟩ ?_ fun _ z => z) ?_
  · rintro k x δ' hk ⟨s, rfl⟩
    obtain ⟨hk, rfl⟩ := rng_at hk
    have hk : k < t.length := by
      have l1 : (PyData.none :: List.map (fun n : Nat => PyData.int n) t).length = t.length + 1 := chart_len t
      rw [l1] at hk
      omega
    obtain ⟨p, hp⟩ : ∃ p, t[k]? = some p := ⟨_, List.getElem?_eq_getElem (by omega)⟩
    have q := ct k p hp
    have ek : (1 : Int) + (k : Nat) = ((k + 1 : Nat) : Int) := by omega
    refine ⟨_, _, tg_name, run_no (ts_not (ts_val (ev_call (ea_cons (ev_ixT (ev_var rfl) (ev_var rfl) (by rw [ek]; exact at_nat (chart_at hp))) (ea_cons (ev_var rfl) ea_nil)) ⟨_, _, rfl, rfl⟩))) ?_ (run_next ⟨_, rfl⟩)⟩
    rw [decide_eq_true (by omega), decide_eq_true (by omega)]
    rfl
  · rintro δ' ⟨s, rfl⟩
    exact run_ret ev_non (.inl rfl)
def R_require_chart : List PD → PD → Prop := R_check_chart
theorem ok_require_chart (T : Tx K mg) : FnOk P w K mg base CX0 4 T.a_require_chart T.d_require_chart P_require_chart (spS K 1 R_require_chart) := by
  refine fun_okC T.f_require_chart sc_require_chart len_S (fun cdv hkc A outer s H vs Q E hr h => ?_)
  have hkd := kds_of_code hkc
  obtain ⟨F, ds, d, hF, hd, hl, r, k⟩ := h
  obtain ⟨t, ct, lt, rfl, rfl⟩ := r
  refine ⟨_, (pss_cons (ps_set (i := 1) sc_require_chart.nd rfl (by first | exact Or.inl rfl | exact Or.inr rfl) (pe_call (ok_check_chart T) (hr.mono (by decide)) (by rfl) T.m_check_chart T.f_check_chart.kp T.b_check_chart .nil pass0 (pa_cons (pv 0) pa_nil)))
      (pss_one (ps_if (pt_cmpR op_notN (pv 1) pe_non (nomark _)) (pss_one ps_never) pss_nil))), run_spS (w := w) hF hd k ?_⟩
  exact run_seq1 (run_set (ev_call (ea_cons (ev_var rfl) ea_nil) ⟨t, ct, lt, rfl, rfl⟩) rfl) (run_no (ts_cmp (ev_notN (rd_var rfl))) rfl (run_next rfl))
def R_require_post : List PD → PD → Prop := fun ds d => ∃ (t : List Nat) (j : Nat), j < t.length + 1 ∧ ds = [chartD t, .int j] ∧ d = .none
theorem ok_require_post (T : Tx K mg) : FnOk P w K mg base CX0 3 T.a_require_post T.d_require_post P_require_post (spS K 2 R_require_post) := by
  refine fun_okC T.f_require_post sc_require_post len_S (fun cdv hkc A outer s H vs Q E hr h => ?_)
  have hkd := kds_of_code hkc
  obtain ⟨F, ds, d, hF, hd, hl, r, k⟩ := h
  obtain ⟨t, j, lj, rfl, rfl⟩ := r
  refine ⟨_, (pss_one (ps_if (pt_not (pt_val (pe_call (ok_is_post T) (hr.mono (by decide)) (by rfl) T.m_is_post T.f_is_post.kp T.b_is_post .nil pass0 (pa_cons (pv 1) (pa_cons (pe_callB (k_len (K := K)) (by rfl) T.z_len (by decide +kernel) (pa_cons (pv 0) pa_nil)) pa_nil))))) (pss_one ps_never) pss_nil)), run_spS (w := w) hF hd k ?_⟩
  refine run_no (ts_not (ts_val (ev_call (ea_cons (ev_var rfl) (ea_cons (ev_len (rd_var rfl)) ea_nil)) ⟨_, _, rfl, rfl⟩))) ?_ (run_next rfl)
  have l0 : ((chartL t).length : Int) = t.length + 1 := by rw [chart_len]; rfl
  rw [l0, decide_eq_true (by omega), decide_eq_true (by omega)]
  rfl
def R_path_to : List PD → List PD → Prop := fun ds es => ∃ (t : List Nat) (j : Nat), Chart t ∧ t.length < 2000 ∧ j < t.length + 1 ∧ ds = [chartD t, .int j] ∧ es = (way t j).map fun n : Nat => .int n
theorem ok_path_to (T : Tx K mg) : FnOk P w K mg base CX0 5 T.a_path_to T.d_path_to P_path_to (spO K 2 R_path_to) := by
  refine fun_okC T.f_path_to sc_path_to len_O (fun cdv hkc A outer s H vs Q E hr h => ?_)
  have hkd := kds_of_code hkc
  obtain ⟨F, ds, es, hF, hd, hl, r, k⟩ := h
  obtain ⟨t, j, ct, lt, lj, rfl, rfl⟩ := r
  refine ⟨_, (pss_cons (ps_expr (pe_call (ok_require_chart T) (hr.mono (by decide)) (by rfl) T.m_require_chart T.f_require_chart.kp T.b_require_chart .nil pass0 (pa_cons (pv 0) pa_nil)))
      (pss_cons (ps_expr (pe_call (ok_require_post T) (hr.mono (by decide)) (by rfl) T.m_require_post T.f_require_post.kp T.b_require_post .nil pass0 (pa_cons (pv 0) (pa_cons (pv 1) pa_nil))))
      (pss_cons (ps_set (i := 2) sc_path_to.nd rfl (by first | exact Or.inl rfl | exact Or.inr rfl) (pe_lst (pa_cons (pv 1) pa_nil)))
      (pss_cons (ps_while PassesOwn.never (pt_cmpR op_notN (pe_ix (k_ixT (K := K)) (pv 0) (pe_ix (k_ixL (K := K)) (pv 2) (pe_un un_neg pe_int) (fun _ _ => rfl)) (fun _ _ => rfl)) pe_non (nomark _)) (pss_one (ps_expr (pe_bm PySem.F.plainAttrs_list PySem.F.slot_list_append PySem.F.type_list_append mt_append (pv 2) (pa_cons (pe_ix (k_ixT (K := K)) (pv 0) (pe_ix (k_ixL (K := K)) (pv 2) (pe_un un_neg pe_int) (fun _ _ => rfl)) (fun _ _ => rfl)) pa_nil)))))
      (pss_cons (ps_expr (pe_bm0 PySem.F.plainAttrs_list PySem.F.slot_list_reverse PySem.F.type_list_reverse mt_reverse (pv 2)))
      (pss_one (ps_ret (pv 2)))))))), run_spO (w := w) hF hd k ?_⟩
  refine run_seq1 (run_drop (ev_call (ea_cons (ev_var rfl) ea_nil) ⟨t, ct, lt, rfl, rfl⟩) rfl) ?_
  refine run_seq1 (run_drop (ev_call (ea_cons (ev_var rfl) (ea_cons (ev_var rfl) ea_nil)) ⟨t, j, lj, rfl, rfl⟩) rfl) ?_
  refine run_seq1 (run_setO (eo_lst (ea_cons (ev_var rfl) ea_nil) (by show 1 ≤ 100000; decide)) rfl) ?_
  refine run_seq1 (δ1 := [.d (chartD t), .d (.int j), .own true ((way t j).reverse.map fun n : Nat => .int n)]) (run_while (fun n δ' => ∃ (q : Nat) (pre : List Nat), q = n ∧ q < t.length + 1 ∧ way t j = way t q ++ pre.reverse ∧ pre.length ≤ j - q ∧ q ≤ j ∧ δ' = [.d (chartD t), .d (.int j), .own true (pre.map (fun n : Nat => .int n) ++ [.int q])]) ⟨_, j, [], rfl, lj, by simp, by simp, Nat.le_refl _, rfl⟩ ?_) ?_
  · rintro n δ' ⟨q, pre, rfl, lq, ew, lp, qj, rfl⟩
    by_cases h0 : 0 < q
    · obtain ⟨p, hp⟩ := chart_has h0 lq
      obtain ⟨es, lt'⟩ := way_step ct h0 hp
      have ea : atI (chartL t) (q : Int) = some (.int p) := at_nat (by
        have e := chart_at hp
        rw [show q - 1 + 1 = q by omega] at e
        exact e)
      refine ⟨_, ts_cmp (ev_notN (ev_ixT (ev_var rfl) (ev_ixO (sq_own rfl) (ev_neg rd_int).rd at_last) ea).rd), fun _ => run_append rfl (ev_ixT (ev_var rfl) (ev_ixO (sq_own rfl) (ev_neg rd_int).rd at_last) ea) (by simp; omega) ⟨p, lt', p, pre ++ [q], rfl, by omega, by rw [ew, es]; simp, by simp; omega, by omega, by simp [List.map_append]⟩, nT⟩
    · have e0 : q = 0 := by omega
      subst e0
      refine ⟨_, ts_cmp (ev_notN (ev_ixT (ev_var rfl) (ev_ixO (sq_own rfl) (ev_neg rd_int).rd at_last) (at_nat (chart_at0 t))).rd), nF, fun _ => ?_⟩
      rw [ew, way_zero]
      simp
  refine run_seq1 (run_reverse rfl rfl) ?_
  refine run_retV rfl ?_
  rw [← List.map_reverse, List.reverse_reverse]
def R_posts_below : List PD → List PD → Prop := fun ds es => ∃ (t : List Nat) (j : Nat), Chart t ∧ t.length < 63 ∧ j < t.length + 1 ∧ ds = [chartD t, .int j] ∧ es = intsD (belowL t j)
theorem ok_posts_below (T : Tx K mg) : FnOk P w K mg base CX0 5 T.a_posts_below T.d_posts_below P_posts_below (spO K 2 R_posts_below) := by
  refine fun_okC T.f_posts_below sc_posts_below len_O (fun cdv hkc A outer s H vs Q E hr h => ?_)
  have hkd := kds_of_code hkc
  obtain ⟨F, ds, es, hF, hd, hl, r, k⟩ := h
  obtain ⟨t, q, ct, lt, lj, rfl, rfl⟩ := r
  refine ⟨_, (pss_cons (ps_expr (pe_call (ok_require_chart T) (hr.mono (by decide)) (by rfl) T.m_require_chart T.f_require_chart.kp T.b_require_chart .nil pass0 (pa_cons (pv 0) pa_nil)))
      (pss_cons (ps_expr (pe_call (ok_require_post T) (hr.mono (by decide)) (by rfl) T.m_require_post T.f_require_post.kp T.b_require_post .nil pass0 (pa_cons (pv 0) (pa_cons (pv 1) pa_nil))))
      (pss_cons (ps_set (i := 2) sc_posts_below.nd rfl (by first | exact Or.inl rfl | exact Or.inr rfl) (pe_set1 hkd (pv 1)))
      (pss_cons (ps_for PassesOwn.never rfl (pi_range2 (by rfl) T.z_range (pa_cons (pe_op op_add (pv 1) pe_int) (pa_cons (pe_callB (k_len (K := K)) (by rfl) T.z_len (by decide +kernel) (pa_cons (pv 0) pa_nil)) pa_nil))) (pg_name (i := 3) sc_posts_below.nd rfl (by first | exact Or.inl rfl | exact Or.inr rfl))
      (pss_one (ps_if (pt_cmpR (k_sin (w := w)) (pe_ix (k_ixT (K := K)) (pv 0) (pv 3) (fun _ _ => rfl)) (pv 2) (by rfl)) (pss_one (ps_expr (pe_sadd (pv 2) (pa_cons (pv 3) pa_nil)))) pss_nil)))
      (pss_one (ps_ret (pe_callB (k_sortedSet (w := w) rfl) (by rfl) T.z_sorted (by decide +kernel) (pa_cons (pv 2) pa_nil)))))))), run_spO (w := w) hF hd k ?_⟩
  refine run_seq1 (run_drop (ev_call (ea_cons (ev_var rfl) ea_nil) ⟨t, ct, by omega, rfl, rfl⟩) rfl) ?_
  refine run_seq1 (run_drop (ev_call (ea_cons (ev_var rfl) (ea_cons (ev_var rfl) ea_nil)) ⟨t, q, lj, rfl, rfl⟩) rfl) ?_
  refine run_seq1 (run_set1 (ev_var rfl) rfl) ?_
  have l1 : (PyData.none :: List.map (fun n : Nat => PyData.int n) t).length = t.length + 1 := chart_len t
  refine run_seq (mid := fun δ' => ∃ (S : Int → Bool) (n : Nat) (s : Slot), δ' = [.d (chartD t), .d (.int q), .set S n, s] ∧ n ≤ t.length + 1 - q ∧ ∀ x : Int, S x = true ↔ ∃ j : Nat, x = j ∧ j < t.length + 1 ∧ q ∈ way t j)
    (run_for (it_rng2 (ev_add (rd_var rfl) rd_int).rd (ev_len (rd_var rfl)).rd (by rw [l1]; omega)) (fun i δ' => ∃ (S : Int → Bool) (n : Nat) (s : Slot), δ' = [.d (chartD t), .d (.int q), .set S n, s] ∧ n ≤ i + 1 ∧ ∀ x : Int, S x = true ↔ ∃ j : Nat, x = j ∧ j < q + 1 + i ∧ q ∈ way t j)
      ⟨_, 1, _, rfl, Nat.le_refl _, fun x => ?_⟩ ?_ ?_) ?_
  · rw [decide_eq_true_eq]
    constructor
    · rintro rfl
      exact ⟨q, rfl, by omega, way_self q⟩
    · rintro ⟨j, rfl, h1, h2⟩
      have := way_le ct j (by omega) q h2
      omega
  · rintro k x δ' hk ⟨S, n, s, rfl, hn, hS⟩
    obtain ⟨hk, rfl⟩ := rng_at hk
    rw [l1] at hk
    have ek : (q : Int) + 1 + (k : Nat) = ((q + 1 + k : Nat) : Int) := by omega
    rw [ek]
    obtain ⟨p, hp⟩ := chart_has (t := t) (j := q + 1 + k) (by omega) (by omega)
    obtain ⟨ew, lp⟩ := way_step ct (by omega) hp
    have ea : atI (chartL t) ((q + 1 + k : Nat) : Int) = some (.int p) := at_nat (by
      have e := chart_at hp
      rw [show q + 1 + k - 1 + 1 = q + 1 + k by omega] at e
      exact e)
    have hin : S (p : Int) = true ↔ q ∈ way t (q + 1 + k) := by
      rw [hS, ew]
      constructor
      · rintro ⟨j, ej, h1, h2⟩
        have : j = p := by omega
        subst this
        exact List.mem_append_left _ h2
      · intro h
        rcases List.mem_append.mp h with h | h
        · exact ⟨p, rfl, lp, h⟩
        · rw [List.mem_singleton] at h
          omega
    refine ⟨_, _, tg_name, run_if (ts_cmp (ev_sin rfl (ev_ixT (ev_var rfl) (ev_var rfl) ea).rd)) (fun h => run_sadd rfl (ev_var rfl) (by omega) ⟨_, _, _, rfl, by split <;> omega, fun x => ?_⟩) fun h => run_next ⟨S, n, _, rfl, by omega, fun x => ?_⟩⟩
    · rw [Bool.or_eq_true, decide_eq_true_eq, hS]
      constructor
      · rintro (⟨j, rfl, h1, h2⟩ | rfl)
        · exact ⟨j, rfl, by omega, h2⟩
        · exact ⟨q + 1 + k, rfl, by omega, hin.mp h⟩
      · rintro ⟨j, rfl, h1, h2⟩
        by_cases z : j = q + 1 + k
        · exact .inr (by rw [z])
        · exact .inl ⟨j, rfl, by omega, h2⟩
    · rw [hS]
      constructor
      · rintro ⟨j, rfl, h1, h2⟩
        exact ⟨j, rfl, by omega, h2⟩
      · rintro ⟨j, rfl, h1, h2⟩
        by_cases z : j = q + 1 + k
        · subst z
          rw [hin.mpr h2] at h
          cases h
        · exact ⟨j, rfl, by omega, h2⟩
  · rintro δ' ⟨S, n, s, rfl, hn, hS⟩
    rw [rng_len, l1] at hn hS
    refine ⟨S, n, s, rfl, by omega, fun x => ?_⟩
    rw [hS]
    constructor
    · rintro ⟨j, rfl, h1, h2⟩
      exact ⟨j, rfl, by omega, h2⟩
    · rintro ⟨j, rfl, h1, h2⟩
      exact ⟨j, rfl, by omega, h2⟩
  · rintro δ' ⟨S, n, s, rfl, hn, hS⟩
    refine run_retO (eo_sortedSet (ns := (belowL t q).map fun n : Nat => (n : Int)) rfl (by omega) (cast_lt (below_sorted t q)) fun x => ?_) (by rw [intsD_eq])
    rw [hS, List.mem_map]
    constructor
    · rintro ⟨j, h, rfl⟩
      exact ⟨j, rfl, below_mem.mp h⟩
    · rintro ⟨j, rfl, h⟩
      exact ⟨j, below_mem.mpr h, rfl⟩
def R_common_post : List PD → PD → Prop := fun ds d => ∃ (t : List Nat) (a b c : Nat), Chart t ∧ t.length < 2000 ∧ a < t.length + 1 ∧ b < t.length + 1 ∧ ds = [chartD t, .int a, .int b] ∧ (comL t a b).getLast? = some c ∧ d = .int c
theorem ok_common_post (T : Tx K mg) : FnOk P w K mg base CX0 5 T.a_common_post T.d_common_post P_common_post (spS K 3 R_common_post) := by
  refine fun_okC T.f_common_post sc_common_post len_S (fun cdv hkc A outer s H vs Q E hr h => ?_)
  have hkd := kds_of_code hkc
  obtain ⟨F, ds, d, hF, hd, hl, r, k⟩ := h
  obtain ⟨t, a, b, c, ct, lt, la, lb, rfl, hc, rfl⟩ := r
  refine ⟨_, (pss_cons (ps_expr (pe_call (ok_require_chart T) (hr.mono (by decide)) (by rfl) T.m_require_chart T.f_require_chart.kp T.b_require_chart .nil pass0 (pa_cons (pv 0) pa_nil)))
      (pss_cons (ps_expr (pe_call (ok_require_post T) (hr.mono (by decide)) (by rfl) T.m_require_post T.f_require_post.kp T.b_require_post .nil pass0 (pa_cons (pv 0) (pa_cons (pv 1) pa_nil))))
      (pss_cons (ps_expr (pe_call (ok_require_post T) (hr.mono (by decide)) (by rfl) T.m_require_post T.f_require_post.kp T.b_require_post .nil pass0 (pa_cons (pv 0) (pa_cons (pv 2) pa_nil))))
      (pss_cons (ps_while PassesOwn.never (pt_cmpR (k_ne (K := K) hr.units) (pv 1) (pv 2) (nomark _)) (pss_one (ps_if (pt_cmpR op_gt (pv 1) (pv 2) (nomark _)) (pss_one (ps_set (i := 1) sc_common_post.nd rfl (by first | exact Or.inl rfl | exact Or.inr rfl) (pe_ix (k_ixT (K := K)) (pv 0) (pv 1) (fun _ _ => rfl)))) (pss_one (ps_set (i := 2) sc_common_post.nd rfl (by first | exact Or.inl rfl | exact Or.inr rfl) (pe_ix (k_ixT (K := K)) (pv 0) (pv 2) (fun _ _ => rfl)))))))
      (pss_one (ps_ret (pv 1))))))), run_spS (w := w) hF hd k ?_⟩
  refine run_seq1 (run_drop (ev_call (ea_cons (ev_var rfl) ea_nil) ⟨t, ct, by omega, rfl, rfl⟩) rfl) ?_
  refine run_seq1 (run_drop (ev_call (ea_cons (ev_var rfl) (ea_cons (ev_var rfl) ea_nil)) ⟨t, a, la, rfl, rfl⟩) rfl) ?_
  refine run_seq1 (run_drop (ev_call (ea_cons (ev_var rfl) (ea_cons (ev_var rfl) ea_nil)) ⟨t, b, lb, rfl, rfl⟩) rfl) ?_
  refine run_seq1 (δ1 := [.d (chartD t), .d (.int c), .d (.int c)]) (run_while (fun n δ' => ∃ a' b' : Nat, n = a' + b' ∧ a' < t.length + 1 ∧ b' < t.length + 1 ∧ comL t a b = comL t a' b' ∧ δ' = [.d (chartD t), .d (.int a'), .d (.int b')]) ⟨_, a, b, rfl, la, lb, rfl, rfl⟩ ?_) ?_
  · rintro n δ' ⟨a', b', rfl, la', lb', ec, rfl⟩
    have look : ∀ z : Nat, 0 < z → z < t.length + 1 → ∃ p, t[z - 1]? = some p ∧ p < z ∧ atI (chartL t) (z : Int) = some (.int p) := fun z h0 hz => by
      obtain ⟨p, hp⟩ := chart_has (t := t) h0 hz
      have e := chart_at hp
      rw [show z - 1 + 1 = z by omega] at e
      exact ⟨p, hp, (way_step ct h0 hp).2, at_nat e⟩
    refine ⟨_, ts_cmp (ev_ne (rd_var rfl) (rd_var rfl) rfl rfl), fun h => ?_, fun h => ?_⟩
    · have ne : a' ≠ b' := by
        rintro rfl
        simp [PyData.eqv] at h
      refine run_if (ts_cmp (ev_gt (rd_var rfl) (rd_var rfl))) (fun g => ?_) fun g => ?_
      · have g' : b' < a' := by have := of_decide_eq_true g; omega
        obtain ⟨p, hp, lp, ea⟩ := look a' (by omega) la'
        exact run_set (ev_ixT (ev_var rfl) (ev_var rfl) ea) ⟨p + b', by omega, p, b', rfl, by omega, lb', by rw [ec, com_left ct g' la' hp], rfl⟩
      · have g' : a' < b' := by have := of_decide_eq_false g; omega
        obtain ⟨p, hp, lp, ea⟩ := look b' (by omega) lb'
        exact run_set (ev_ixT (ev_var rfl) (ev_var rfl) ea) ⟨a' + p, by omega, a', p, rfl, la', by omega, by rw [ec, com_right ct g' lb' hp], rfl⟩
    · have e : a' = b' := by
        simp [PyData.eqv] at h
        omega
      subst e
      rw [ec, com_self, way_last] at hc
      cases hc
      rfl
  · exact run_ret (ev_var rfl) (.inl rfl)
end
section
variable {P : Program} {w : World} {K : PySem.W.Frag} {mg : Str → Option Value} {base : Heap}
def R_cell : List PD → PD → Prop := fun ds d => ∃ (ns : List Int) (i : Nat), ds = [.list (ns.map .int), .int i] ∧ d = .int (ns.getD i 0)
theorem ok_l_cell (T : Tx K mg) : FnOk P w K mg base CX0 1 T.a_l_cell T.d_l_cell P_l_cell (spS K 2 R_cell) := by
  refine fun_okC T.f_l_cell sc_l_cell len_S (fun cdv hkc A outer s H vs Q E hr h => ?_)
  have hkd := kds_of_code hkc
  obtain ⟨F, ds, d, hF, hd, hl, r, k⟩ := h
  obtain ⟨ns, i, rfl, rfl⟩ := r
  refine ⟨_, (pss_cons (ps_if (pt_cmpR op_lt (pv 1) (pe_callB (k_len (K := K)) (by rfl) T.z_len (by decide +kernel) (pa_cons (pv 0) pa_nil)) (nomark _)) (pss_one (ps_ret (pe_ix (k_ixL (K := K)) (pv 0) (pv 1) (fun _ _ => rfl)))) pss_nil)
      (pss_one (ps_ret pe_int))), run_spS (w := w) hF hd k ?_⟩
  have l : ((ns.map PyData.int).length : Int) = ns.length := by rw [List.length_map]
  by_cases c : i < ns.length
  · refine run_seq (mid := no1) (run_yes (ts_cmp (ev_lt (rd_var rfl) (ev_len (rd_var rfl)).rd)) (decide_eq_true (by rw [l]; omega)) (run_ret (ev_ixL (ev_var rfl) (ev_var rfl) (at_nat (d := .int ns[i]) (by rw [List.getElem?_map, List.getElem?_eq_getElem c]; rfl))) (.inl ?_))) fun _ z => z.elim
    rw [List.getD_eq_getElem?_getD, List.getElem?_eq_getElem c]
    rfl
  · refine run_seq1 (run_no (ts_cmp (ev_lt (rd_var rfl) (ev_len (rd_var rfl)).rd)) (decide_eq_false (by rw [l]; omega)) (run_next rfl)) (run_ret ev_int (.inl ?_))
    rw [List.getD_eq_getElem?_getD, List.getElem?_eq_none (by omega)]
    rfl
def R_hash : List PD → PD → Prop := fun ds d => ∃ s i : Int, 0 ≤ s ∧ s < 2147483647 ∧ 0 ≤ i ∧ i < 2000000000000 ∧ ds = [.int s, .int i] ∧ d = .int (hashF s i)
theorem nat_lt {i : Int} {n : Nat} (h0 : 0 ≤ i) (h : i < (2 : Int) ^ n) : i.natAbs < 2 ^ n := by
  have : (i.natAbs : Int) = i := Int.natAbs_of_nonneg h0
  have q : ((i.natAbs : Nat) : Int) < ((2 ^ n : Nat) : Int) := by rw [this]; simpa using h
  exact Int.ofNat_lt.mp q
theorem ok_l_hash (T : Tx K mg) : FnOk P w K mg base CX0 1 T.a_l_hash T.d_l_hash P_l_hash (spS K 2 R_hash) := by
  refine fun_okC T.f_l_hash sc_l_hash len_S (fun cdv hkc A outer s H vs Q E hr h => ?_)
  have hkd := kds_of_code hkc
  obtain ⟨F, ds, d, hF, hd, hl, r, k⟩ := h
  obtain ⟨s, i, h1, h2, h3, h4, rfl, rfl⟩ := r
  refine ⟨_, (pss_cons (ps_set (i := 2) sc_l_hash.nd rfl (by first | exact Or.inl rfl | exact Or.inr rfl) (pe_op op_mod (pe_callTy call_int1 (by rfl) T.z_int (by decide +kernel) (pa_cons (pe_op op_add (pe_op op_add (pe_op op_add (pe_op op_mulX (pv 0) pe_int) (pe_op op_mulX (pe_op op_mulX pe_int (pv 1)) (pv 1))) (pv 1)) pe_int) pa_nil)) pe_int))
      (pss_cons (ps_set (i := 2) sc_l_hash.nd rfl (by first | exact Or.inl rfl | exact Or.inr rfl) (pe_op op_mod (pe_callTy call_int1 (by rfl) T.z_int (by decide +kernel) (pa_cons (pe_op op_add (pe_op op_mulX (pv 2) (pv 2)) pe_int) pa_nil)) pe_int))
      (pss_one (ps_ret (pe_op op_mod (pe_callTy call_int1 (by rfl) T.z_int (by decide +kernel) (pa_cons (pe_op op_mulX (pv 2) pe_int) pa_nil)) pe_int))))), run_spS (w := w) hF hd k ?_⟩
  have m1 : 0 ≤ hash1 s i ∧ hash1 s i < 2147483647 := ⟨Int.emod_nonneg _ (by decide), Int.emod_lt_of_pos _ (by decide)⟩
  have m2 : 0 ≤ hash2 (hash1 s i) ∧ hash2 (hash1 s i) < 2147483629 := ⟨Int.emod_nonneg _ (by decide), Int.emod_lt_of_pos _ (by decide)⟩
  refine run_seq1 (run_set (ev_mod (ev_toInt (ev_add (ev_add (ev_add (ev_mul (rd_var rfl) rd_int (mulx_ok (a := 31) (b := 31) (nat_lt h1 (by omega)) (by decide) (by decide))).rd (ev_mul (ev_mul rd_int (rd_var rfl) (mulx_ok (a := 31) (b := 41) (by decide) (nat_lt h3 (by omega)) (by decide))).rd (rd_var rfl) (mulx_ok (a := 60) (b := 41) (nat_lt (by omega) (by omega)) (nat_lt h3 (by omega)) (by decide))).rd).rd (rd_var rfl)).rd rd_int).rd).rd rd_int (by decide)) rfl) ?_
  show MU.Run K w _ [.d (.int s), .d (.int i), .d (.int (hash1 s i))] _ _ _ _
  refine run_seq1 (run_set (ev_mod (ev_toInt (ev_add (ev_mul (rd_var rfl) (rd_var rfl) (mulx_ok (a := 31) (b := 31) (nat_lt m1.1 (by omega)) (nat_lt m1.1 (by omega)) (by decide))).rd rd_int).rd).rd rd_int (by decide)) rfl) ?_
  show MU.Run K w _ [.d (.int s), .d (.int i), .d (.int (hash2 (hash1 s i)))] _ _ _ _
  exact run_ret (ev_mod (ev_toInt (ev_mul (rd_var rfl) rd_int (mulx_ok (a := 31) (b := 31) (nat_lt m2.1 (by omega)) (by decide) (by decide))).rd).rd rd_int (by decide)) (.inl rfl)
def R_generator : List PD → List PD → Prop := fun ds es => ∃ (ns : List Int) (i : Nat), i ≤ 1000 ∧ ds = [.list (ns.map .int), .int i] ∧ ∃ a s c : Int, es = [.int a, .int s, .int c] ∧ a = max (ns.getD i 0 - 10 ^ 18) 0 % 10 ^ 600 ∧ s = ns.getD i 0 % 2147483647 ∧ c = 1000 * i
theorem ten600 : ((10 : Int) ^ (60 : Int).toNat) ^ (10 : Int).toNat = 10 ^ 600 := Int.pow_mul.symm
theorem pos600 : (0 : Int) < 10 ^ 600 := Int.pow_pos (by decide)
theorem ok_l_generator (T : Tx K mg) : FnOk P w K mg base CX0 2 T.a_l_generator T.d_l_generator P_l_generator (spO K 2 R_generator) := by
  refine fun_okC T.f_l_generator sc_l_generator len_O (fun cdv hkc A outer s H vs Q E hr h => ?_)
  have hkd := kds_of_code hkc
  obtain ⟨F, ds, es, hF, hd, hl, r, k⟩ := h
  obtain ⟨ns, i, hi, rfl, a, s, c, rfl, rfl, rfl, rfl⟩ := r
  refine ⟨_, (pss_cons (ps_set (i := 2) sc_l_generator.nd rfl (by first | exact Or.inl rfl | exact Or.inr rfl) (pe_call (ok_l_cell T) (hr.mono (by decide)) (by rfl) T.m_l_cell T.f_l_cell.kp T.b_l_cell .nil pass0 (pa_cons (pv 0) (pa_cons (pv 1) pa_nil))))
      (pss_one (ps_ret (pe_lst (pa_cons (pe_op op_mod (pe_callTy call_int1 (by rfl) T.z_int (by decide +kernel) (pa_cons (pe_callB (call_max2 rfl) (by rfl) T.z_max (by decide +kernel) (pa_cons (pe_op op_sub (pv 2) (pe_op op_powW pe_int pe_int)) (pa_cons pe_int pa_nil))) pa_nil)) (pe_op op_powW (pe_op op_powW pe_int pe_int) pe_int)) (pa_cons (pe_op op_mod (pe_callTy call_int1 (by rfl) T.z_int (by decide +kernel) (pa_cons (pv 2) pa_nil)) pe_int) (pa_cons (pe_op op_mulX pe_int (pv 1)) pa_nil))))))), run_spO (w := w) hF hd k ?_⟩
  have e6 := ten600
  have p6 := pos600
  refine run_seq1 (run_set (ev_call (ea_cons (ev_var rfl) (ea_cons (ev_var rfl) ea_nil)) ⟨ns, i, rfl, rfl⟩) rfl) ?_
  refine run_retO (eo_lst (ea_cons (ev_mod (ev_toInt (ev_max2 (ev_sub (rd_var rfl) (ev_int2C rd_int rd_int ⟨by decide, by decide +kernel⟩ fun H => .int _).rd).rd rd_int).rd).rd (ev_int2C (ev_int2C rd_int rd_int ⟨by decide, by decide +kernel⟩ fun H => .int _).rd rd_int ⟨by decide, by decide +kernel⟩ fun H => .int _).rd (by rw [e6]; exact p6))
    (ea_cons (ev_mod (ev_toInt (rd_var rfl)).rd rd_int (by decide)) (ea_cons (ev_mul rd_int (rd_var rfl) (mulx_ok (a := 31) (b := 31) (by decide) (nat_lt (by omega) (by omega)) (by decide))) ea_nil))) (by show 3 ≤ 100000; decide)) ?_
  rw [e6]
  rfl
def intIn (b : Int) : PD → Prop := fun d => ∃ r : Int, d = .int r ∧ 0 ≤ r ∧ r < b
def R_random : List PD → (PD → Prop) → Prop := fun ds P => ∃ b : Int, ds = [.int b] ∧ 1 ≤ b ∧ b < 2 ^ 60 ∧ P = intIn b
theorem bits_le {b : Int} (h1 : 1 ≤ b) (h2 : b < 2 ^ 60) : Builtin.Int.intBits b ≤ 60 := by
  have q := PySem.Flt.log2_lt_of (k := 60) (by decide) (nat_lt (n := 60) (by omega) h2)
  unfold Builtin.Int.intBits
  split <;> omega
theorem ok_l_random (T : Tx K mg) : FnOk P w K mg base CX0 2 T.a_l_random T.d_l_random P_l_random (spG K 2 3 R_random) := by
  refine fun_okC T.f_l_random sc_l_random len_G (fun cdv hkc A outer s H vs Q E hr h => ?_)
  have hkd := kds_of_code hkc
  obtain ⟨F, g, n, us, ds, P, e0, hF, hg, hG, hn, hd, hl, r, k⟩ := h
  subst e0
  obtain ⟨b, rfl, h1, h2, rfl⟩ := r
  refine ⟨_, (pss_cons (ps_if (pt_cmpR op_gt (pe_ix (k_ixL (K := K)) (pv 0) pe_int (fun _ _ => rfl)) pe_int (nomark _)) (pss_cons (ps_set (i := 2) sc_l_random.nd rfl (by first | exact Or.inl rfl | exact Or.inr rfl) (pe_op op_mod (pe_callTy call_int1 (by rfl) T.z_int (by decide +kernel) (pa_cons (pe_ix (k_ixL (K := K)) (pv 0) pe_int (fun _ _ => rfl)) pa_nil)) (pv 1)))
      (pss_cons (ps_asg (pe_op op_fdivW (pe_ix (k_ixL (K := K)) (pv 0) pe_int (fun _ _ => rfl)) (pv 1)) (pg_sub (pv 0) pe_int set_list))
      (pss_one (ps_ret (pv 2))))) pss_nil)
      (pss_cons (ps_set (i := 2) sc_l_random.nd rfl (by first | exact Or.inl rfl | exact Or.inr rfl) pe_int)
      (pss_cons (ps_for PassesOwn.never rfl (pi_range1 (by rfl) T.z_range (pa_cons (pe_op op_add pe_int (pe_op op_fdivW (pe_bits (pv 1)) pe_int)) pa_nil)) (pg_name (i := 3) sc_l_random.nd rfl (by first | exact Or.inl rfl | exact Or.inr rfl))
      (pss_cons (ps_asg (pe_op op_add (pe_ix (k_ixL (K := K)) (pv 0) pe_int (fun _ _ => rfl)) pe_int) (pg_sub (pv 0) pe_int set_list))
      (pss_one (ps_set (i := 2) sc_l_random.nd rfl (by first | exact Or.inl rfl | exact Or.inr rfl) (pe_op op_add (pe_op op_mulX (pv 2) pe_int) (pe_call (ok_l_hash T) (hr.mono (by decide)) (by rfl) T.m_l_hash T.f_l_hash.kp T.b_l_hash .nil pass0 (pa_cons (pe_ix (k_ixL (K := K)) (pv 0) pe_int (fun _ _ => rfl)) (pa_cons (pe_ix (k_ixL (K := K)) (pv 0) pe_int (fun _ _ => rfl)) pa_nil))))))))
      (pss_one (ps_ret (pe_op op_mod (pe_callTy call_int1 (by rfl) T.z_int (by decide +kernel) (pa_cons (pv 2) pa_nil)) (pv 1))))))), run_spG (w := w) hF hg hG hd k ?_⟩
  refine run_opn (i := 0) (δ := [.gen false n, .d (.int b), .emp, .emp]) (Nat.zero_lt_succ _) fun a s c ha ha' hs hs' hc hc' => ?_
  show MU.Run K w _ [.own false [.int a, .int s, .int c], .d (.int b), .emp, .emp] _ _ _ _
  refine run_seq1 (run_if (ts_cmp (ev_gt (ev_ixO (sq_own rfl) rd_int (at_nat (j := 0) rfl)).rd rd_int)) (fun g0 => ?_) fun g0 => run_next rfl) ?_
  · refine run_seq1 (run_set (ev_mod (ev_toInt (ev_ixO (sq_own rfl) rd_int (at_nat (j := 0) rfl)).rd).rd (rd_var rfl) (by omega)) rfl) ?_
    refine run_seq1 (run_setitem (j := 0) rfl (ev_div (ev_ixO (sq_own rfl) rd_int (at_nat (j := 0) rfl)).rd (rd_var rfl) (wide_div (b := 60) (by omega) (nat_lt (by omega) h2) (by decide) (by decide))) ev_int rfl rfl) ?_
    refine run_ret (ev_var rfl) ⟨.inr ⟨a / b, s, c, rfl, Int.ediv_nonneg ha (by omega), Int.lt_of_le_of_lt (Int.ediv_le_self b ha) ha', hs, hs', hc, by omega⟩, .inl ⟨_, rfl, _, rfl, Int.emod_nonneg _ (by omega), Int.emod_lt_of_pos _ (by omega)⟩⟩
  refine run_seq1 (run_set ev_int rfl) ?_
  have hb := bits_le h1 h2
  have hn' : n + 3 ≤ 1000000000000 := hn
  refine run_seq (mid := fun δ' => ∃ (c' dr : Int) (z : Slot), δ' = [.own false [.int a, .int s, .int c'], .d (.int b), .d (.int dr), z] ∧ 0 ≤ c' ∧ c' ≤ n + 3 ∧ 0 ≤ dr)
    (run_for (it_rng1 (ev_add rd_int (ev_div (ev_bits (rd_var rfl)).rd rd_int (wide_div (b := 6) (by decide) (by decide) (by decide) (by decide))).rd).rd (by omega) (by omega))
      (fun i δ' => ∃ (dr : Int) (z : Slot), δ' = [.own false [.int a, .int s, .int (c + i)], .d (.int b), .d (.int dr), z] ∧ 0 ≤ dr ∧ dr < (2147483648 : Int) ^ i) ⟨0, _, by rw [Int.natCast_zero, Int.add_zero]; rfl, by decide, by decide⟩ ?_ ?_) ?_
  · rintro i x δ' hk ⟨dr, z, rfl, d0, d1⟩
    obtain ⟨hk, rfl⟩ := rng_at hk
    have i3 : i < 3 := by omega
    have dX : dr < (2147483648 : Int) ^ 3 := by
      refine Int.lt_of_lt_of_le d1 ?_
      have : i = 0 ∨ i = 1 ∨ i = 2 := by omega
      rcases this with rfl | rfl | rfl <;> decide
    have hr : 0 ≤ hashF s (c + i + 1) ∧ hashF s (c + i + 1) < 2147483587 := ⟨Int.emod_nonneg _ (by decide), Int.emod_lt_of_pos _ (by decide)⟩
    refine ⟨_, _, tg_name, run_seq1 (run_setitem (j := 2) rfl (ev_add (ev_ixO (sq_own rfl) rd_int (at_nat (j := 2) rfl)).rd rd_int) ev_int rfl rfl) ?_⟩
    refine run_set (ev_add (ev_mul (rd_var rfl) rd_int (mulx_ok (a := 93) (b := 31) (nat_lt d0 (Int.lt_of_lt_of_le dX (by decide))) (by decide) (by decide))).rd (ev_call (ea_cons (ev_ixO (sq_own rfl) rd_int (at_nat (j := 1) rfl)) (ea_cons (ev_ixO (sq_own rfl) rd_int (at_nat (j := 2) rfl)) ea_nil)) ⟨s, c + i + 1, hs, hs', by omega, by omega, rfl, rfl⟩).rd) ⟨dr * 2147483587 + hashF s (c + i + 1), .d (.int (0 + i)), ?_, by omega, ?_⟩
    · rw [show c + ((i + 1 : Nat) : Int) = c + i + 1 by omega]
      rfl
    · rw [Int.pow_succ]
      omega
  · rintro δ' ⟨dr, z, rfl, d0, _⟩
    refine ⟨_, dr, z, rfl, by omega, ?_, d0⟩
    rw [rng_len]
    omega
  · rintro δ' ⟨c', dr, z, rfl, c0, c1, d0⟩
    exact run_ret (ev_mod (ev_toInt (rd_var rfl)).rd (rd_var rfl) (by omega)) ⟨.inr ⟨a, s, c', rfl, ha, ha', hs, hs', c0, c1⟩, .inl ⟨_, rfl, _, rfl, Int.emod_nonneg _ (by omega), Int.emod_lt_of_pos _ (by omega)⟩⟩
section
variable {δ : List Slot} {te : TE} {E : XK} {i : Nat} {b : Bool} {n m : Int}
theorem eg_random (h : EvD K w te (δ.set i (.gen b n)) (.int m)) (h1 : 1 ≤ m) (h2 : m < 2 ^ 60) (hn : n + 3 ≤ gmax) : EvG K w (tCall (spG K 2 3 R_random) [] E (tCons (tVar i) (tCons te tNil))) δ i b n (n + 3) (intIn m) :=
  eg_call (ega_pure (ea_cons h ea_nil)) hn fun ds e => by
    subst e
    exact ⟨rfl, m, rfl, h1, h2, rfl⟩
end
def chartLt (m : Nat) : PD → Prop := fun d => ∃ t, d = chartD t ∧ Chart t ∧ t.length < m
def R_random_chart : List PD → (PD → Prop) → Prop := fun ds P => ∃ m : Nat, ds = [.int m] ∧ 1 ≤ m ∧ m ≤ 48 ∧ P = chartLt m
theorem chart_more {t : List Nat} (c : Chart t) {p : Nat} (h : p ≤ t.length) : Chart (t ++ [p]) := fun k q e => by
  by_cases z : k < t.length
  · rw [List.getElem?_append_left z] at e
    exact c k q e
  · rw [List.getElem?_append_right (by omega)] at e
    have l := (List.getElem?_eq_some_iff.mp e).1
    have : k = t.length := by
      rw [List.length_singleton] at l
      omega
    subst this
    rw [Nat.sub_self] at e
    cases e
    exact h
theorem chartL_more (t : List Nat) (p : Nat) : chartL (t ++ [p]) = chartL t ++ [PyData.int (p : Int)] := by simp [chartL]
theorem ok_l_random_chart (T : Tx K mg) : FnOk P w K mg base CX0 3 T.a_l_random_chart T.d_l_random_chart P_l_random_chart (spG K 2 300 R_random_chart) := by
  refine fun_okC T.f_l_random_chart sc_l_random_chart len_G (fun cdv hkc A outer s H vs Q E hr h => ?_)
  have hkd := kds_of_code hkc
  obtain ⟨F, g, n, us, ds, P, e0, hF, hg, hG, hn, hd, hl, r, k⟩ := h
  subst e0
  obtain ⟨m, rfl, h1, h2, rfl⟩ := r
  refine ⟨_, (pss_cons (ps_set (i := 2) sc_l_random_chart.nd rfl (by first | exact Or.inl rfl | exact Or.inr rfl) (pe_op op_add pe_int (pe_call (ok_l_random T) (hr.mono (by decide)) (by rfl) T.m_l_random T.f_l_random.kp T.b_l_random .nil pass0 (pa_cons (pv 0) (pa_cons (pv 1) pa_nil)))))
      (pss_cons (ps_set (i := 3) sc_l_random_chart.nd rfl (by first | exact Or.inl rfl | exact Or.inr rfl) (pe_call (ok_l_random T) (hr.mono (by decide)) (by rfl) T.m_l_random T.f_l_random.kp T.b_l_random .nil pass0 (pa_cons (pv 0) (pa_cons pe_int pa_nil))))
      (pss_cons (ps_set (i := 4) sc_l_random_chart.nd rfl (by first | exact Or.inl rfl | exact Or.inr rfl) (pe_lst (pa_cons pe_non pa_nil)))
      (pss_cons (ps_for PassesOwn.never rfl (pi_range2 (by rfl) T.z_range (pa_cons pe_int (pa_cons (pv 2) pa_nil))) (pg_name (i := 5) sc_l_random_chart.nd rfl (by first | exact Or.inl rfl | exact Or.inr rfl))
      (pss_cons (ps_set (i := 6) sc_l_random_chart.nd rfl (by first | exact Or.inl rfl | exact Or.inr rfl) (pe_lst (pa_cons (pe_op op_sub (pv 5) pe_int) (pa_cons pe_int (pa_cons (pe_call (ok_l_random T) (hr.mono (by decide)) (by rfl) T.m_l_random T.f_l_random.kp T.b_l_random .nil pass0 (pa_cons (pv 0) (pa_cons (pv 5) pa_nil))) (pa_cons (pe_callB (call_max2 rfl) (by rfl) T.z_max (by decide +kernel) (pa_cons pe_int (pa_cons (pe_op op_sub (pe_op op_sub (pv 5) pe_int) (pe_call (ok_l_random T) (hr.mono (by decide)) (by rfl) T.m_l_random T.f_l_random.kp T.b_l_random .nil pass0 (pa_cons (pv 0) (pa_cons pe_int pa_nil)))) pa_nil))) (pa_cons (pe_op op_fdivW (pv 5) pe_int) pa_nil)))))))
      (pss_one (ps_expr (pe_bm PySem.F.plainAttrs_list PySem.F.slot_list_append PySem.F.type_list_append mt_append (pv 4) (pa_cons (pe_callB (call_min2 rfl) (by rfl) T.z_min (by decide +kernel) (pa_cons (pe_op op_sub (pv 5) pe_int) (pa_cons (pe_ix (k_ixL (K := K)) (pv 6) (pv 3) (fun _ _ => rfl)) pa_nil))) pa_nil))))))
      (pss_one (ps_ret (pe_callTy (k_tuple (K := K)) (by rfl) T.z_tuple (by decide +kernel) (pa_cons (pv 4) pa_nil)))))))), run_spG (w := w) hF hg hG hd k ?_⟩
  have hn' : n + 300 ≤ 1000000000000 := hn
  refine run_seq (mid := fun δ' => ∃ sz : Nat, 1 ≤ sz ∧ sz ≤ m ∧ δ' = [.gen false (n + 3), .d (.int m), .d (.int sz), .emp, .emp, .emp, .emp]) (run_setG (i := 0) (δ := [.gen false n, .d (.int m), .emp, .emp, .emp, .emp, .emp]) (n2 := n + 3) (P := fun d => ∃ sz : Nat, 1 ≤ sz ∧ sz ≤ m ∧ d = .int sz) (eg_int2 (eg_pure ev_int) (eg_random (m := m) (ev_var rfl) (by omega) (by omega) (show n + 3 ≤ 1000000000000 by omega)) ?_) (Nat.zero_lt_succ _) ?_) ?_
  · rintro x y rfl ⟨r, rfl, r0, r1⟩
    exact ⟨_, _, .int (1 + r), rfl, rfl, ⟨(1 + r).toNat, by omega, by omega, by rw [Int.toNat_of_nonneg (by omega)]⟩, fun H => .int _⟩
  · rintro d ⟨sz, s1, s2, rfl⟩
    exact ⟨sz, s1, s2, rfl⟩
  rintro δ' ⟨sz, s1, s2, rfl⟩
  refine run_seq (mid := fun δ' => ∃ kd : Nat, kd < 5 ∧ δ' = [.gen false (n + 6), .d (.int m), .d (.int sz), .d (.int kd), .emp, .emp, .emp]) (run_setG (i := 0) (δ := [.gen false (n + 3), .d (.int m), .d (.int sz), .emp, .emp, .emp, .emp]) (eg_random (m := 5) ev_int (by decide) (by decide) (show n + 3 + 3 ≤ 1000000000000 by omega)) (Nat.zero_lt_succ _) ?_) ?_
  · rintro d ⟨r, rfl, r0, r1⟩
    refine ⟨r.toNat, by omega, ?_⟩
    rw [Int.toNat_of_nonneg r0, show n + 6 = n + 3 + 3 by omega]
    rfl
  rintro δ' ⟨kd, hk5, rfl⟩
  refine run_seq1 (run_setO (eo_lst (ea_cons ev_non ea_nil) (by show 1 ≤ 100000; decide)) rfl) ?_
  refine run_seq (mid := fun δ' => ∃ (t : List Nat) (x5 x6 : Slot) (n' : Int), n' ≤ n + 300 ∧ Chart t ∧ t.length = sz - 1 ∧ δ' = [.gen false n', .d (.int m), .d (.int sz), .d (.int kd), .own true (chartL t), x5, x6])
    (run_for (it_rng2 rd_int (rd_var rfl) (by omega)) (fun i δ' => ∃ (t : List Nat) (x5 x6 : Slot), Chart t ∧ t.length = i ∧ δ' = [.gen false (n + 6 + 6 * i), .d (.int m), .d (.int sz), .d (.int kd), .own true (chartL t), x5, x6]) ⟨[], .emp, .emp, fun k p e => by simp at e, rfl, by rw [Int.natCast_zero, Int.mul_zero, Int.add_zero]; rfl⟩ ?_ ?_) ?_
  · rintro i x δ' hx ⟨t, x5, x6, ct, lt, rfl⟩
    obtain ⟨hi, rfl⟩ := rng_at hx
    have e1 : (1 : Int) + (i : Nat) = ((i + 1 : Nat) : Int) := by omega
    rw [e1]
    refine ⟨_, _, tg_name, run_seq (mid := fun δ' => ∃ l : List Int, l.length = 5 ∧ (∀ z ∈ l, 0 ≤ z) ∧ δ' = [.gen false (n + 6 + 6 * i + 6), .d (.int m), .d (.int sz), .d (.int kd), .own true (chartL t), .d (.int ((i + 1 : Nat) : Int)), .d (.list (l.map .int))])
      (run_setG (i := 0) (δ := [.gen false (n + 6 + 6 * i), .d (.int m), .d (.int sz), .d (.int kd), .own true (chartL t), .d (.int ((i + 1 : Nat) : Int)), x6]) (n2 := n + 6 + 6 * i + 3 + 3) (P := fun d => ∃ l : List Int, l.length = 5 ∧ (∀ z ∈ l, 0 ≤ z) ∧ d = .list (l.map .int))
        (eg_lst (ega_cons (eg_pure (ev_sub (rd_var rfl) rd_int)) (ega_cons (eg_pure ev_int) (ega_cons (eg_random (m := ((i + 1 : Nat) : Int)) (ev_var rfl) (by omega) (by omega) (show n + 6 + 6 * (i : Int) + 3 ≤ 1000000000000 by omega))
          (ega_cons (eg_cb (P := fun d => ∃ r : Int, d = .int r ∧ 0 ≤ r) (ega_cons (eg_pure ev_int) (ega_cons (eg_int2 (P := fun d => ∃ r, d = .int r) (eg_pure (ev_sub (rd_var rfl) rd_int)) (eg_random (m := 3) ev_int (by decide) (by decide) (show n + 6 + 6 * (i : Int) + 3 + 3 ≤ 1000000000000 by omega)) ?_) ega_nil)) ?_) (ega_cons (eg_pure (ev_div (rd_var rfl) rd_int (wide_div (b := 6) (by decide) (by decide) (by decide) (by decide)))) ega_nil))))) ?_) (Nat.zero_lt_succ _) ?_) ?_⟩
    · rintro x y rfl ⟨r, rfl, _, _⟩
      exact ⟨_, _, _, rfl, rfl, ⟨_, rfl⟩, fun H => .int _⟩
    · rintro ds ⟨d1, r1, rfl, rfl, d2, r2, rfl, ⟨z, rfl⟩, rfl⟩
      refine ⟨.int (max 0 z), _, ⟨_, rfl, by omega⟩, fun H => .int _, fun H vs h Q q => ?_⟩
      obtain ⟨v, u, rfl, h1, h2⟩ := da2 h
      cases h1
      cases h2
      refine ⟨0, z, rfl, ?_⟩
      rw [show (if z > 0 then z else 0) = max 0 z by split <;> omega]
      exact q
    · rintro ds ⟨d1, r1, rfl, rfl, d2, r2, rfl, rfl, d3, r3, rfl, ⟨z3, rfl, b3, _⟩, d4, r4, rfl, ⟨z4, rfl, b4⟩, d5, r5, rfl, rfl, rfl⟩
      refine ⟨by simp, [_, 0, z3, z4, _], rfl, fun z hz => ?_, rfl⟩
      simp only [List.mem_cons, List.not_mem_nil, or_false] at hz
      rcases hz with rfl | rfl | rfl | rfl | rfl <;> omega
    · rintro d ⟨l, l5, l0, rfl⟩
      refine ⟨l, l5, l0, ?_⟩
      rw [show n + 6 + 6 * (i : Int) + 6 = n + 6 + 6 * (i : Int) + 3 + 3 by omega]
      rfl
    · rintro δ' ⟨l, l5, l0, rfl⟩
      have ha : atI (l.map PyData.int) (kd : Int) = some (.int (l[kd]'(by omega))) := at_nat (by rw [List.getElem?_map, List.getElem?_eq_getElem (by omega)]; rfl)
      have h0 := l0 _ (List.getElem_mem (by omega : kd < l.length))
      refine run_append rfl (ev_min2 (ev_sub (rd_var rfl) rd_int).rd (ev_ixL (ev_var rfl) (ev_var rfl) ha).rd) (by rw [chart_len]; omega) ⟨t ++ [(min (((i + 1 : Nat) : Int) - 1) l[kd]).toNat], .d (.int ((i + 1 : Nat) : Int)), .d (.list (l.map .int)), chart_more ct (by omega), by rw [List.length_append, List.length_singleton, lt], ?_⟩
      rw [show n + 6 + 6 * ((i + 1 : Nat) : Int) = n + 6 + 6 * (i : Int) + 6 by omega]
      have e2 : (((min (((i + 1 : Nat) : Int) - 1) l[kd]).toNat : Nat) : Int) = min (((i + 1 : Nat) : Int) - 1) l[kd] := Int.toNat_of_nonneg (by omega)
      rw [chartL_more, e2]
      rfl
  · rintro δ' ⟨t, x5, x6, ct, lt, rfl⟩
    rw [rng_len] at lt ⊢
    exact ⟨t, x5, x6, _, by omega, ct, by omega, rfl⟩
  · rintro δ' ⟨t, x5, x6, n', hn2, ct, lt, rfl⟩
    exact run_ret (ev_tupleOf (sq_own rfl)) ⟨.inl ⟨_, rfl, hn2⟩, .inl ⟨_, rfl, t, rfl, ct, by omega⟩⟩
end
section
variable {P : Program} {w : World} {K : PySem.W.Frag} {mg : Str → Option Value} {base : Heap}
def R_way : List PD → List PD → Prop := fun ds es => ∃ (t : List Nat) (j : Nat), Chart t ∧ t.length < 2000 ∧ j < t.length + 1 ∧ ds = [chartD t, .int j] ∧ es = intsD (way t j)
theorem ok_l_way (T : Tx K mg) : FnOk P w K mg base CX0 1 T.a_l_way T.d_l_way P_l_way (spO K 2 R_way) := by
  refine fun_okC T.f_l_way sc_l_way len_O (fun cdv hkc A outer s H vs Q E hr h => ?_)
  have hkd := kds_of_code hkc
  obtain ⟨F, ds, es, hF, hd, hl, r, k⟩ := h
  obtain ⟨t, j, ct, lt, lj, rfl, rfl⟩ := r
  refine ⟨_, (pss_cons (ps_set (i := 2) sc_l_way.nd rfl (by first | exact Or.inl rfl | exact Or.inr rfl) (pe_lst (pa_cons (pv 1) pa_nil)))
      (pss_cons (ps_while PassesOwn.never (pt_cmpR op_notN (pe_ix (k_ixT (K := K)) (pv 0) (pe_ix (k_ixL (K := K)) (pv 2) pe_int (fun _ _ => rfl)) (fun _ _ => rfl)) pe_non (nomark _)) (pss_one (ps_set (i := 2) sc_l_way.nd rfl (by first | exact Or.inl rfl | exact Or.inr rfl) (pe_op (k_catL (K := K)) (pe_lst (pa_cons (pe_ix (k_ixT (K := K)) (pv 0) (pe_ix (k_ixL (K := K)) (pv 2) pe_int (fun _ _ => rfl)) (fun _ _ => rfl)) pa_nil)) (pv 2)))))
      (pss_one (ps_ret (pv 2))))), run_spO (w := w) hF hd k ?_⟩
  refine run_seq1 (run_setO (eo_lst (ea_cons (ev_var rfl) ea_nil) (by show 1 ≤ 100000; decide)) rfl) ?_
  refine run_seq1 (δ1 := [.d (chartD t), .d (.int j), .own true (intsD (way t j))]) (run_while (fun n δ' => ∃ (q : Nat) (rest : List Nat), q = n ∧ q < t.length + 1 ∧ way t j = way t q ++ rest ∧ rest.length ≤ j - q ∧ q ≤ j ∧ δ' = [.d (chartD t), .d (.int j), .own true (intsD (q :: rest))]) ⟨_, j, [], rfl, lj, by simp, by simp, Nat.le_refl _, rfl⟩ ?_) ?_
  · rintro n δ' ⟨q, rest, rfl, lq, ew, lp, qj, rfl⟩
    have e0 : (intsD (q :: rest))[0]? = some (.int q) := rfl
    by_cases h0 : 0 < q
    · obtain ⟨p, hp⟩ := chart_has h0 lq
      obtain ⟨es, lt'⟩ := way_step ct h0 hp
      have ea : atI (chartL t) (q : Int) = some (.int p) := at_nat (by
        have e := chart_at hp
        rw [show q - 1 + 1 = q by omega] at e
        exact e)
      refine ⟨_, ts_cmp (ev_notN (ev_ixT (ev_var rfl) (ev_ixO (sq_own rfl) rd_int (at_nat e0)) ea).rd), fun _ => run_setO (eo_cat (eo_lst (ea_cons (ev_ixT (ev_var rfl) (ev_ixO (sq_own rfl) rd_int (at_nat e0)) ea) ea_nil) (by show 1 ≤ 100000; decide)).sq (sq_own rfl) (by simp [intsD]; omega)) ⟨p, lt', p, q :: rest, rfl, by omega, by rw [ew, es]; simp, by simp; omega, by omega, rfl⟩, nT⟩
    · have e1 : q = 0 := by omega
      subst e1
      refine ⟨_, ts_cmp (ev_notN (ev_ixT (ev_var rfl) (ev_ixO (sq_own rfl) rd_int (at_nat e0)) (at_nat (chart_at0 t))).rd), nF, fun _ => ?_⟩
      rw [ew, way_zero]
      rfl
  exact run_retV rfl rfl
def R_post_right : List PD → PD → Prop := fun ds d => ∃ (t : List Nat) (j : Nat), Chart t ∧ t.length < 63 ∧ j < t.length + 1 ∧ ds = [chartD t, .int j] ∧ d = .bool true
theorem ok_l_post_right (T : Tx K mg) : FnOk P w K mg base CX0 6 T.a_l_post_right T.d_l_post_right P_l_post_right (spS K 2 R_post_right) := by
  refine fun_okC T.f_l_post_right sc_l_post_right len_S (fun cdv hkc A outer s H vs Q E hr h => ?_)
  have hkd := kds_of_code hkc
  obtain ⟨F, ds, d, hF, hd, hl, r, k⟩ := h
  obtain ⟨t, q, ct, lt, lj, rfl, rfl⟩ := r
  refine ⟨_, (pss_cons (ps_setLc (i := 2) (own := [("_law_other", 6)]) rfl sc_l_post_right.nd rfl rfl (sw_true rfl rfl rfl (by decide +kernel)) (pi_range1 (by rfl) T.z_range (pa_cons (pe_callB (k_len (K := K)) (by rfl) T.z_len (by decide +kernel) (pa_cons (pv 0) pa_nil)) pa_nil)) (blkOk_by (N := N_l_post_right) (sc := defScope s_l_post_right) (by decide +kernel)) (fun _ _ _ _ _ => (pg_name (i := 6) sc_l_post_right.nd rfl (by first | exact Or.inl rfl | exact Or.inr rfl))) (fun _ _ _ _ _ => (pts_one (pt_cmpR (k_in (K := K)) (pv 1) (pe_call (ok_l_way T) (hr.mono (by decide)) (by rfl) T.m_l_way T.f_l_way.kp T.b_l_way .nil pass0 (pa_cons (pv 0) (pa_cons (pv 6) pa_nil))) (by rfl)))) (fun _ _ _ _ _ => (pv 6)))
      (pss_cons (ps_for PassesOwn.never rfl (pi_range1 (by rfl) T.z_range (pa_cons pe_int pa_nil)) (pg_name (i := 3) sc_l_post_right.nd rfl (by first | exact Or.inl rfl | exact Or.inr rfl))
      (pss_cons (ps_par (i := 4) (j := 5) (by rfl) sc_l_post_right.nd rfl rfl (by decide) rfl rfl (pa_cons (pe_call (ok_path_to T) (hr.mono (by decide)) (by rfl) T.m_path_to T.f_path_to.kp T.b_path_to .nil pass0 (pa_cons (pv 0) (pa_cons (pv 1) pa_nil))) (pa_cons (pe_call (ok_posts_below T) (hr.mono (by decide)) (by rfl) T.m_posts_below T.f_posts_below.kp T.b_posts_below .nil pass0 (pa_cons (pv 0) (pa_cons (pv 1) pa_nil))) pa_nil)) (by rfl))
      (pss_cons (ps_if (PW.pt (pw_or (pt_cmpR (k_ne (K := K) hr.units) (pv 4) (pe_call (ok_l_way T) (hr.mono (by decide)) (by rfl) T.m_l_way T.f_l_way.kp T.b_l_way .nil pass0 (pa_cons (pv 0) (pa_cons (pv 1) pa_nil))) (nomark _)) (pw_or1 (pt_cmpR (k_ne (K := K) hr.units) (pv 5) (pv 2) (nomark _))))) (pss_one (ps_ret pe_bl)) pss_nil)
      (pss_cons (ps_expr (pe_bm PySem.F.plainAttrs_list PySem.F.slot_list_append PySem.F.type_list_append mt_append (pv 4) (pa_cons pe_int pa_nil)))
      (pss_one (ps_expr (pe_bm PySem.F.plainAttrs_list PySem.F.slot_list_append PySem.F.type_list_append mt_append (pv 5) (pa_cons pe_int pa_nil))))))))
      (pss_one (ps_ret pe_bl)))), run_spS (w := w) hF hd k ?_⟩
  have l1 : (PyData.none :: List.map (fun n : Nat => PyData.int n) t).length = t.length + 1 := chart_len t
  refine run_seq1 (δ1 := [.d (chartD t), .d (.int q), .d (.list (intsD (belowL t q))), .emp, .emp, .emp, .emp]) (run_set (eo_lc (f := selD fun j => decide (q ∈ way t j)) (it_rng1 (ev_len (rd_var rfl)).rd (by omega) (by omega)) (by rw [rng_len, l1]; omega) ?_).ev ?_) ?_
  · intro k x hk
    obtain ⟨hk, rfl⟩ := rng_at hk
    rw [l1] at hk
    have ek : (0 : Int) + (k : Nat) = ((k : Nat) : Int) := by omega
    rw [ek]
    refine ⟨_, _, decide (q ∈ way t k), fun j h => h, tg_name, ts_cmp (b := decide (q ∈ way t k)) ((ev_in (rd_var rfl) (eo_callR (es := intsD (way t k)) (ra_cons (rd_var rfl) (ra_cons (rd_var rfl) ra_nil)) ⟨t, k, ct, by omega, by omega, rfl, rfl⟩ (sc_ints _)).rd rfl (flat_ints _)).is (congrArg PyData.bool (any_ints _ _))), fun h => ⟨_, ev_var rfl, ?_⟩, fun h => ?_⟩
    · rw [sel_at, if_pos h]
    · rw [sel_at, if_neg (by rw [h]; exact Bool.false_ne_true)]
  · have e1 := filt_range (t.length + 1) (fun j => decide (q ∈ way t j)) _ (sel_at _)
    have e2 : ((((PyData.none :: List.map (fun n : Nat => PyData.int n) t).length : Nat) : Int)).toNat = t.length + 1 := by rw [l1]; rfl
    rw [e2, e1]
    rfl
  refine run_seq (mid := fun δ' => True) (run_for (it_rng1 rd_int (by decide) (by decide)) (fun _ δ' => ∃ x3 x4 x5 x6, δ' = [.d (chartD t), .d (.int q), .d (.list (intsD (belowL t q))), x3, x4, x5, x6]) ⟨_, _, _, _, rfl⟩ ?_ fun _ _ => trivial) fun _ _ => run_ret ev_bl (.inl rfl)
  rintro k x δ' hk ⟨x3, x4, x5, x6, rfl⟩
  refine ⟨_, _, tg_name, run_seq1 (run_parO (eo_call (ea_cons (ev_var rfl) (ea_cons (ev_var rfl) ea_nil)) ⟨t, q, ct, by omega, lj, rfl, rfl⟩) (eo_call (ea_cons (ev_var rfl) (ea_cons (ev_var rfl) ea_nil)) ⟨t, q, ct, lt, lj, rfl, rfl⟩) rfl) ?_⟩
  refine run_seq1 (run_no (ts_or (ts_cmp (ev_ne (rd_own rfl) (eo_call (ea_cons (ev_var rfl) (ea_cons (ev_var rfl) ea_nil)) ⟨t, q, ct, by omega, lj, rfl, rfl⟩).rd (shp_ok (shp_ints _)) (shp_ok (shp_ints _)))) fun _ => ts_cmp (ev_ne (rd_own rfl) (rd_var rfl) (shp_ok (shp_ints _)) (shp_ok (shp_ints _)))) ?_ (run_next rfl)) ?_
  · have e1 := eq_same (shp_ints (way t q)) rfl
    have e2 := eq_same (shp_ints (belowL t q)) rfl
    rw [e2]
    exact (congrArg (fun b => (!b || !true)) e1)
  have a1 := way_len ct q lj
  have a2 : (belowL t q).length ≤ t.length + 1 := by
    have := List.length_filter_le (fun j => decide (q ∈ way t j)) (List.range (t.length + 1))
    rw [List.length_range] at this
    exact this
  refine run_seq1 (run_append rfl ev_int (by simp; omega) rfl) (run_append rfl ev_int (by simp [intsD]; omega) ⟨_, _, _, _, rfl⟩)
def R_pair_right : List PD → PD → Prop := fun ds d => ∃ (t : List Nat) (a b : Nat), Chart t ∧ t.length < 2000 ∧ a < t.length + 1 ∧ b < t.length + 1 ∧ ds = [chartD t, .int a, .int b] ∧ d = .bool true
theorem log_small {c : Nat} (h : c < 2 ^ 20) : (c : Int).natAbs.log2 < 1920 := by
  have q := PySem.Flt.log2_lt_of (k := 20) (n := (c : Int).natAbs) (by decide) (by rw [Int.natAbs_natCast]; exact h)
  omega
theorem eqv_str (x : Str) : PyData.eqv (.str x) (.str x) = true := by simp [PyData.eqv]
theorem shp_strI (c : Int) : SeqAt.shaped (.str (toString c)) = true := shp_ok (n := 0) (shp_str _)
theorem ok_l_pair_right (T : Tx K mg) : FnOk P w K mg base CX0 6 T.a_l_pair_right T.d_l_pair_right P_l_pair_right (spS K 3 R_pair_right) := by
  refine fun_okC T.f_l_pair_right sc_l_pair_right len_S (fun cdv hkc A outer s H vs Q E hr h => ?_)
  have hkd := kds_of_code hkc
  obtain ⟨F, ds, d, hF, hd, hl, r, k⟩ := h
  obtain ⟨t, a, b, ct, lt, la, lb, rfl, rfl⟩ := r
  refine ⟨_, (pss_cons (ps_setLc (i := 3) (own := [("_law_place", 4)]) rfl sc_l_pair_right.nd rfl rfl (sw_true rfl rfl rfl (by decide +kernel)) (k_pil (K := K) (pe_call (ok_l_way T) (hr.mono (by decide)) (by rfl) T.m_l_way T.f_l_way.kp T.b_l_way .nil pass0 (pa_cons (pv 0) (pa_cons (pv 1) pa_nil)))) (blkOk_by (N := N_l_pair_right) (sc := defScope s_l_pair_right) (by decide +kernel)) (fun _ _ _ _ _ => (pg_name (i := 4) sc_l_pair_right.nd rfl (by first | exact Or.inl rfl | exact Or.inr rfl))) (fun _ _ _ _ _ => (pts_one (pt_cmpR (k_in (K := K)) (pv 4) (pe_call (ok_l_way T) (hr.mono (by decide)) (by rfl) T.m_l_way T.f_l_way.kp T.b_l_way .nil pass0 (pa_cons (pv 0) (pa_cons (pv 2) pa_nil))) (by rfl)))) (fun _ _ _ _ _ => (pv 4)))
      (pss_one (ps_ret (pe_and (pe_cmpR (k_eq (K := K) hr.units) (pe_callB SkE.call_repr_int (by rfl) T.z_repr (by decide +kernel) (pa_cons (pe_call (ok_common_post T) (hr.mono (by decide)) (by rfl) T.m_common_post T.f_common_post.kp T.b_common_post .nil pass0 (pa_cons (pv 0) (pa_cons (pv 1) (pa_cons (pv 2) pa_nil)))) pa_nil)) (pe_callTy call_str_int (by rfl) T.z_str (by decide +kernel) (pa_cons (pe_ix (k_ixL (K := K)) (pv 3) (pe_un un_neg pe_int) (fun _ _ => rfl)) pa_nil)) (nomark _)) (pe_one (pe_cmpR (k_eq (K := K) hr.units) (pe_call (ok_common_post T) (hr.mono (by decide)) (by rfl) T.m_common_post T.f_common_post.kp T.b_common_post .nil pass0 (pa_cons (pv 0) (pa_cons (pv 2) (pa_cons (pv 1) pa_nil)))) (pe_ix (k_ixL (K := K)) (pv 3) (pe_un un_neg pe_int) (fun _ _ => rfl)) (nomark _))))))), run_spS (w := w) hF hd k ?_⟩
  obtain ⟨c, hc, lc⟩ := com_some ct la lb
  have hc' : (comL t b a).getLast? = some c := by rw [com_symm ct la lb]; exact hc
  refine run_seq1 (δ1 := [.d (chartD t), .d (.int a), .d (.int b), .d (.list (intsD (comL t a b))), .emp]) (run_set (eo_lc (f := selD fun j => decide (j ∈ way t b)) (it_list (eo_callR (es := intsD (way t a)) (ra_cons (rd_var rfl) (ra_cons (rd_var rfl) ra_nil)) ⟨t, a, ct, lt, la, rfl, rfl⟩ (sc_ints _)).ev) (by have := way_len ct a la; simp [intsD]; omega) ?_).ev ?_) ?_
  · intro k x hk
    obtain ⟨j, hj, rfl⟩ := ints_at hk
    have lj := way_le ct a la j (List.mem_of_getElem? hj)
    refine ⟨_, _, decide (j ∈ way t b), fun j h => h, tg_name, ts_cmp (b := decide (j ∈ way t b)) ((ev_in (rd_var rfl) (eo_callR (es := intsD (way t b)) (ra_cons (rd_var rfl) (ra_cons (rd_var rfl) ra_nil)) ⟨t, b, ct, lt, lb, rfl, rfl⟩ (sc_ints _)).rd rfl (flat_ints _)).is (congrArg PyData.bool (any_ints _ _))), fun h => ⟨_, ev_var rfl, ?_⟩, fun h => ?_⟩
    · rw [sel_at, if_pos h]
    · rw [sel_at, if_neg (by rw [h]; exact Bool.false_ne_true)]
  · rw [filt_ints _ (fun j => decide (j ∈ way t b)) _ (sel_at _)]
    rfl
  refine run_ret (d := .bool true) ((ev_andV (ev_eq (ev_strI (ev_call (d := .int c) (ea_cons (ev_var rfl) (ea_cons (ev_var rfl) (ea_cons (ev_var rfl) ea_nil))) ⟨t, a, b, c, ct, lt, la, lb, rfl, hc, rfl⟩).rd (log_small (by omega))).rd (ev_strI (ev_ixL (ev_var rfl) (ev_neg rd_int) (at_getLast hc)).rd (log_small (by omega))).rd (shp_strI _) (shp_strI _)) fun _ =>
    ev_eq (ev_call (d := .int c) (ea_cons (ev_var rfl) (ea_cons (ev_var rfl) (ea_cons (ev_var rfl) ea_nil))) ⟨t, b, a, c, ct, lt, lb, la, rfl, hc', rfl⟩).rd (ev_ixL (ev_var rfl) (ev_neg rd_int) (at_getLast hc)).rd rfl rfl).is ?_) (.inl rfl)
  rw [eqv_str, eq_same (n := 0) shp_int rfl]
  rfl
def spLaw (K : PySem.W.Frag) : Sp := fun vs H Q _ => ∃ (a : Addr) (ns : List Int), vs = [.ref a] ∧ SqL K H a (ns.map V.int) ∧ ns.length ≤ 63 ∧ ∀ H', Q (.bl true) H'
theorem ok_law (T : Tx K mg) : FnOk P w K mg base CX0 7 T.a_law T.d_law P_law (spLaw K) := by
  refine fun_okC T.f_law sc_law (fun vs H Q E ⟨a, ns, e, _⟩ => by rw [e]; rfl) (fun cdv hkc A outer s H vs Q E hr h => ?_)
  obtain ⟨a, ns, rfl, hS, hlen, q⟩ := h
  refine ⟨_, (pss_cons (ps_for PassesOwn.never rfl (pi_range1 (by rfl) T.z_range (pa_cons pe_int pa_nil)) (pg_name (i := 1) sc_law.nd rfl (by first | exact Or.inl rfl | exact Or.inr rfl))
      (pss_cons (ps_set (i := 2) sc_law.nd rfl (by first | exact Or.inl rfl | exact Or.inr rfl) (pe_call (ok_l_generator T) (hr.mono (by decide)) (by rfl) T.m_l_generator T.f_l_generator.kp T.b_l_generator .nil pass0 (pa_cons (pv 0) (pa_cons (pv 1) pa_nil))))
      (pss_cons (ps_set (i := 3) sc_law.nd rfl (by first | exact Or.inl rfl | exact Or.inr rfl) (pe_call (ok_l_random_chart T) (hr.mono (by decide)) (by rfl) T.m_l_random_chart T.f_l_random_chart.kp T.b_l_random_chart .nil pass0 (pa_cons (pv 2) (pa_cons pe_int pa_nil))))
      (pss_cons (ps_if (pt_cmpR (k_eq (K := K) hr.units) (pv 1) pe_int (nomark _)) (pss_one (ps_set (i := 3) sc_law.nd rfl (by first | exact Or.inl rfl | exact Or.inr rfl) (pe_op (k_catT (K := K)) (pe_tup (pa_cons pe_non pa_nil)) (pe_callTy (k_tuple (K := K)) (by rfl) T.z_tuple (by decide +kernel) (pa_cons (pe_lc (own := [("_law_place", 8)]) rfl sc_law.nd (pi_range2 (by rfl) T.z_range (pa_cons pe_int (pa_cons pe_int pa_nil))) (blkOk_by (N := N_law) (sc := defScope s_law) (by decide +kernel)) (fun _ _ _ _ _ => (pg_name (i := 8) sc_law.nd rfl (by first | exact Or.inl rfl | exact Or.inr rfl))) (fun _ _ _ _ _ => pts_nil) (fun _ _ _ _ _ => (pe_call (ok_l_random T) (hr.mono (by decide)) (by rfl) T.m_l_random T.f_l_random.kp T.b_l_random .nil pass0 (pa_cons (pv 2) (pa_cons (pv 8) pa_nil))))) pa_nil))))) pss_nil)
      (pss_cons (ps_set (i := 4) sc_law.nd rfl (by first | exact Or.inl rfl | exact Or.inr rfl) (pe_callB (k_len (K := K)) (by rfl) T.z_len (by decide +kernel) (pa_cons (pv 3) pa_nil)))
      (pss_cons (ps_if (pt_cmpR (k_ne (K := K) hr.units) (pe_lc (own := [("_law_place", 8)]) rfl sc_law.nd (pi_range1 (by rfl) T.z_range (pa_cons (pv 4) pa_nil)) (blkOk_by (N := N_law) (sc := defScope s_law) (by decide +kernel)) (fun _ _ _ _ _ => (pg_name (i := 8) sc_law.nd rfl (by first | exact Or.inl rfl | exact Or.inr rfl))) (fun _ _ _ _ _ => (pts_one (pt_not (pt_val (pe_call (ok_l_post_right T) (hr.mono (by decide)) (by rfl) T.m_l_post_right T.f_l_post_right.kp T.b_l_post_right .nil pass0 (pa_cons (pv 3) (pa_cons (pv 8) pa_nil))))))) (fun _ _ _ _ _ => (pv 8))) (pe_lst pa_nil) (nomark _)) (pss_one (ps_ret pe_bl)) pss_nil)
      (pss_one (ps_for PassesOwn.never rfl (pi_range1 (by rfl) T.z_range (pa_cons (pe_callB (call_min2 rfl) (by rfl) T.z_min (by decide +kernel) (pa_cons (pe_op op_mulX (pv 4) (pv 4)) (pa_cons pe_int pa_nil))) pa_nil)) (pg_name (i := 5) sc_law.nd rfl (by first | exact Or.inl rfl | exact Or.inr rfl))
      (pss_cons (ps_par (i := 6) (j := 7) (by rfl) sc_law.nd rfl rfl (by decide) rfl rfl (pa_cons (pe_op op_mod (pe_callTy call_int1 (by rfl) T.z_int (by decide +kernel) (pa_cons (pe_op op_fdivW (pv 5) (pv 4)) pa_nil)) (pv 4)) (pa_cons (pe_op op_mod (pe_callTy call_int1 (by rfl) T.z_int (by decide +kernel) (pa_cons (pv 5) pa_nil)) (pv 4)) pa_nil)) (by rfl))
      (pss_cons (ps_if (pt_cmpR (k_eq (K := K) hr.units) (pv 1) pe_int (nomark _)) (pss_one (ps_par (i := 6) (j := 7) (by rfl) sc_law.nd rfl rfl (by decide) rfl rfl (pa_cons (pe_call (ok_l_random T) (hr.mono (by decide)) (by rfl) T.m_l_random T.f_l_random.kp T.b_l_random .nil pass0 (pa_cons (pv 2) (pa_cons (pv 4) pa_nil))) (pa_cons (pe_call (ok_l_random T) (hr.mono (by decide)) (by rfl) T.m_l_random T.f_l_random.kp T.b_l_random .nil pass0 (pa_cons (pv 2) (pa_cons (pv 4) pa_nil))) pa_nil)) (by rfl))) pss_nil)
      (pss_one (ps_if (pt_not (pt_val (pe_call (ok_l_pair_right T) (hr.mono (by decide)) (by rfl) T.m_l_pair_right T.f_l_pair_right.kp T.b_l_pair_right .nil pass0 (pa_cons (pv 3) (pa_cons (pv 6) (pa_cons (pv 7) pa_nil)))))) (pss_one (ps_ret pe_bl)) pss_nil))))))))))))
      (pss_one (ps_ret pe_bl))), run_spS (w := w) (d := .bool true) (ds := [.list (ns.map .int)]) (Same.refl H) (.cons (.lst hS (da_ints ns)) .nil) (fun v F2 H2 _ e => by rw [dp_bool e]; exact q H2) ?_⟩
  refine run_seq (mid := fun δ' => True) (run_for (it_rng1 rd_int (by decide) (by decide)) (fun _ δ' => ∃ x1 x2 x3 x4 x5 x6 x7 x8, δ' = [.d (.list (ns.map .int)), x1, x2, x3, x4, x5, x6, x7, x8]) ⟨_, _, _, _, _, _, _, _, rfl⟩ ?_ fun _ _ => trivial) fun _ _ => run_ret ev_bl (.inl rfl)
  rintro k x δ' hk ⟨x1, x2, x3, x4, x5, x6, x7, x8, rfl⟩
  obtain ⟨k5, rfl⟩ := rng_at hk
  have ek : (0 : Int) + (k : Nat) = ((k : Nat) : Int) := by omega
  rw [ek]
  have k5 : k < 5 := k5
  refine ⟨_, _, tg_name, run_seq1 (run_setGen (n := 5000) (eo_call (ea_cons (ev_var rfl) (ea_cons (ev_var rfl) ea_nil)) ⟨ns, k, by omega, rfl, _, _, _, rfl, rfl, rfl, rfl⟩) ⟨Int.emod_nonneg _ (Int.ne_of_gt pos600), Int.emod_lt_of_pos _ pos600, Int.emod_nonneg _ (by decide), Int.emod_lt_of_pos _ (by decide), by omega, by omega⟩ rfl) ?_⟩
  refine run_seq (mid := fun δ' => ∃ t, Chart t ∧ t.length < 9 ∧ δ' = [.d (.list (ns.map .int)), .d (.int k), .gen true 5300, .d (chartD t), x4, x5, x6, x7, x8]) (run_setG (i := 2) (δ := [.d (.list (ns.map .int)), .d (.int k), .gen true 5000, x3, x4, x5, x6, x7, x8]) (n2 := 5000 + 300) (eg_call (ega_pure (ea_cons ev_int ea_nil)) (show (5000 : Int) + 300 ≤ 1000000000000 by decide) fun ds e => by subst e; exact ⟨rfl, 9, rfl, by decide, by decide, rfl⟩) (by simp) ?_) ?_
  · rintro d ⟨t, rfl, ct, lt⟩
    exact ⟨t, ct, lt, rfl⟩
  rintro δ' ⟨t0, ct0, lt0, rfl⟩
  refine run_seq (mid := fun δ' => ∃ t n', Chart t ∧ t.length < 40 ∧ n' ≤ 6000 ∧ δ' = [.d (.list (ns.map .int)), .d (.int k), .gen true n', .d (chartD t), x4, x5, x6, x7, x8]) (run_if (ts_cmp (ev_eq (rd_var rfl) rd_int rfl rfl)) (fun _ => ?_) fun _ => run_next ⟨t0, 5300, ct0, by omega, by decide, rfl⟩) ?_
  · refine run_setG (i := 2) (δ := [.d (.list (ns.map .int)), .d (.int k), .gen true 5300, .d (chartD t0), x4, x5, x6, x7, x8]) (P := fun d => ∃ t, d = chartD t ∧ Chart t ∧ t.length = 39)
      (eg_catT (eg_pure (ev_tup (ea_cons ev_non ea_nil) (by decide))) (eg_tupleOf (P := fun d => ∃ t, Chart t ∧ t.length = 39 ∧ d = .tuple (t.map fun n : Nat => PyData.int n)) (eg_lc (v := 8) (k := 3) (kp := fun x e => ∃ p r : Int, x = .int p ∧ e = .int r ∧ 0 ≤ r ∧ r < p) (sk := fun _ => False) (it_rng2 rd_int rd_int (by decide)) (by decide) (by decide) (by rw [rng_len]; decide) ?_) ?_) ?_) (by simp) ?_
    · intro j x hj
      obtain ⟨j39, rfl⟩ := rng_at hj
      have j39 : j < 39 := j39
      refine ⟨0, _, by decide, by rw [Int.add_zero]; exact tsg_pure ts_yes, fun _ => ?_, fun z => by cases z⟩
      rw [Int.add_zero]
      refine (eg_random (m := 1 + (j : Int)) (ev_var rfl) (by omega) (by omega) (show 5300 + 3 * (j : Int) + 3 ≤ 1000000000000 by omega)).imp ?_
      rintro d ⟨r, rfl, r0, r1⟩
      exact ⟨_, r, rfl, rfl, r0, r1⟩
    · rintro x ⟨es, rfl, lr⟩
      obtain ⟨l, a⟩ := lr.all
      rw [rng_len] at l
      obtain ⟨t, ct, tl, rfl⟩ := drawn_chart (n := 39) l fun j hj => by
        obtain ⟨e, h1, p, r, h2, rfl, r0, r1⟩ := a j (.int (1 + (j : Int))) (by unfold rngD; rw [List.getElem?_map, List.getElem?_range (show j < (40 - 1 : Int).toNat from hj)]; rfl)
        cases h2
        exact ⟨r, h1, r0, r1⟩
      exact ⟨_, rfl, t, ct, tl, rfl⟩
    · rintro x y rfl ⟨t, ct, tl, rfl⟩
      exact ⟨_, _, rfl, rfl, by simp; omega, t, rfl, ct, tl⟩
    · rintro d ⟨t, rfl, ct, tl⟩
      exact ⟨t, _, ct, by omega, by rw [rng_len]; decide, rfl⟩
  rintro δ' ⟨t, n', ct, lt, hn, rfl⟩
  have l1 : (PyData.none :: List.map (fun n : Nat => PyData.int n) t).length = t.length + 1 := chart_len t
  have l2 : ((PyData.none :: List.map (fun n : Nat => PyData.int n) t).length : Int) = ((t.length + 1 : Nat) : Int) := by rw [l1]
  refine run_seq1 (run_set ((ev_len (rd_var rfl)).is (congrArg PyData.int l2)) rfl) ?_
  refine run_seq1 (run_no (ts_cmp (ev_ne (eo_lc (f := fun _ => none) (it_rng1 (rd_var rfl) (by omega) (by omega)) (by rw [rng_len]; omega) ?_).rd (eo_lst ea_nil (by decide)).rd (shp_ok (n := 1) (shp_list ?_)) rfl)) ?_ (run_next rfl)) ?_
  · intro j y hj
    obtain ⟨hj, rfl⟩ := rng_at hj
    have ej : (0 : Int) + (j : Nat) = ((j : Nat) : Int) := by omega
    rw [ej]
    exact ⟨_, _, false, fun j h => h, tg_name, ts_not (b := true) (ts_val (ev_call (ea_cons (ev_var rfl) (ea_cons (ev_var rfl) ea_nil)) ⟨t, j, ct, by omega, by omega, rfl, rfl⟩)), nF, fun _ => rfl⟩
  · intro z hz
    simp at hz
  · rw [filt_none]
    rfl
  have m0 : (0 : Int) ≤ ((t.length + 1 : Nat) : Int) * ((t.length + 1 : Nat) : Int) := Int.mul_nonneg (by omega) (by omega)
  refine run_for (it_rng1 (ev_min2 (ev_mul (rd_var rfl) (rd_var rfl) (mulx_ok (a := 20) (b := 20) (nat_lt (by omega) (by omega)) (nat_lt (by omega) (by omega)) (by decide))).rd rd_int).rd (by omega) (by omega)) (fun i δ' => ∃ n' x5 x6 x7 x8, n' ≤ 6000 + 6 * (i : Int) ∧ δ' = [.d (.list (ns.map .int)), .d (.int k), .gen true n', .d (chartD t), .d (.int ((t.length + 1 : Nat) : Int)), x5, x6, x7, x8]) ⟨_, _, _, _, _, by omega, rfl⟩ ?_ ?_
  · rintro i x δ' hi ⟨n1, y5, y6, y7, y8, hn1, rfl⟩
    obtain ⟨hi, rfl⟩ := rng_at hi
    have hi81 : i < 81 := by omega
    have lp : (0 : Int) < ((t.length + 1 : Nat) : Int) := by omega
    refine ⟨_, _, tg_name, ?_⟩
    refine run_seq1 (run_par (ea_cons (ev_mod (ev_toInt (ev_div (rd_var rfl) (rd_var rfl) (wide_div (b := 20) lp (nat_lt (by omega) (by omega)) (by decide) (by decide))).rd).rd (rd_var rfl) lp) (ea_cons (ev_mod (ev_toInt (rd_var rfl)).rd (rd_var rfl) lp) ea_nil)) rfl) ?_
    refine run_seq (mid := fun δ' => ∃ (n2 : Int) (a c : Nat), n2 ≤ 6000 + 6 * ((i + 1 : Nat) : Int) ∧ a < t.length + 1 ∧ c < t.length + 1 ∧ δ' = [.d (.list (ns.map .int)), .d (.int k), .gen true n2, .d (chartD t), .d (.int ((t.length + 1 : Nat) : Int)), .d (.int (0 + (i : Int))), .d (.int a), .d (.int c), y8]) (run_if (ts_cmp (ev_eq (rd_var rfl) rd_int rfl rfl)) (fun _ => ?_) fun _ => run_next ?_) ?_
    · refine run_parG (i := 2) (δ := [.d (.list (ns.map .int)), .d (.int k), .gen true n1, .d (chartD t), .d (.int ((t.length + 1 : Nat) : Int)), .d (.int (0 + (i : Int))), .d (.int ((0 + (i : Int)) / ((t.length + 1 : Nat) : Int) % ((t.length + 1 : Nat) : Int))), .d (.int ((0 + (i : Int)) % ((t.length + 1 : Nat) : Int))), y8]) (ega_cons (eg_random (m := ((t.length + 1 : Nat) : Int)) (ev_var rfl) (by omega) (by omega) (show n1 + 3 ≤ 1000000000000 by omega)) (ega_cons (eg_random (m := ((t.length + 1 : Nat) : Int)) (ev_var rfl) (by omega) (by omega) (show n1 + 3 + 3 ≤ 1000000000000 by omega)) ega_nil)) (by simp) ?_
      rintro ds ⟨d1, r1, rfl, ⟨a, rfl, a0, a1⟩, d2, r2, rfl, ⟨c, rfl, c0, c1⟩, rfl⟩
      refine ⟨_, _, rfl, n1 + 3 + 3, a.toNat, c.toNat, by omega, by omega, by omega, ?_⟩
      rw [Int.toNat_of_nonneg a0, Int.toNat_of_nonneg c0]
      rfl
    · have b1 := Int.emod_nonneg ((0 + (i : Int)) / ((t.length + 1 : Nat) : Int)) (Int.ne_of_gt lp)
      have b2 := Int.emod_lt_of_pos ((0 + (i : Int)) / ((t.length + 1 : Nat) : Int)) lp
      have b3 := Int.emod_nonneg (0 + (i : Int)) (Int.ne_of_gt lp)
      have b4 := Int.emod_lt_of_pos (0 + (i : Int)) lp
      refine ⟨n1, ((0 + (i : Int)) / ((t.length + 1 : Nat) : Int) % ((t.length + 1 : Nat) : Int)).toNat, ((0 + (i : Int)) % ((t.length + 1 : Nat) : Int)).toNat, by omega, by omega, by omega, ?_⟩
      rw [Int.toNat_of_nonneg b1, Int.toNat_of_nonneg b3]
      rfl
    · rintro δ' ⟨n2, a, c, h1, h2, h3, rfl⟩
      exact run_no (ts_not (ts_val (ev_call (ea_cons (ev_var rfl) (ea_cons (ev_var rfl) (ea_cons (ev_var rfl) ea_nil))) ⟨t, a, c, ct, by omega, h2, h3, rfl, rfl⟩))) rfl (run_next ⟨n2, _, _, _, _, h1, rfl⟩)
  · rintro δ' ⟨n1, y5, y6, y7, y8, _, rfl⟩
    exact ⟨_, _, _, _, _, _, _, _, rfl⟩
end
theorem all_mk {l : PySem.W.OpenLaw} {w : World} {K : PySem.W.Frag} {h : Heap} {mg : Str → Option Value} {fa : Addr} (X : K.In h) (G : h.Ns mainGlobals mg) (hfa : mg "law" = some (.ref fa))
    {od_is_whole an_is_whole : Option Addr} {sl_is_whole : Array (Option Value)} {oc_is_whole kV_is_whole dc_is_whole pm_is_whole cd_is_whole ct_is_whole : Value} {f_is_whole : Addr}
    {od_is_post an_is_post : Option Addr} {sl_is_post : Array (Option Value)} {oc_is_post kV_is_post dc_is_post pm_is_post cd_is_post ct_is_post : Value} {f_is_post : Addr}
    {od_check_chart an_check_chart : Option Addr} {sl_check_chart : Array (Option Value)} {oc_check_chart kV_check_chart dc_check_chart pm_check_chart cd_check_chart ct_check_chart : Value} {f_check_chart : Addr}
    {od_require_chart an_require_chart : Option Addr} {sl_require_chart : Array (Option Value)} {oc_require_chart kV_require_chart dc_require_chart pm_require_chart cd_require_chart ct_require_chart : Value} {f_require_chart : Addr}
    {od_require_post an_require_post : Option Addr} {sl_require_post : Array (Option Value)} {oc_require_post kV_require_post dc_require_post pm_require_post cd_require_post ct_require_post : Value} {f_require_post : Addr}
    {od_path_to an_path_to : Option Addr} {sl_path_to : Array (Option Value)} {oc_path_to kV_path_to dc_path_to pm_path_to cd_path_to ct_path_to : Value} {f_path_to : Addr}
    {od_posts_below an_posts_below : Option Addr} {sl_posts_below : Array (Option Value)} {oc_posts_below kV_posts_below dc_posts_below pm_posts_below cd_posts_below ct_posts_below : Value} {f_posts_below : Addr}
    {od_common_post an_common_post : Option Addr} {sl_common_post : Array (Option Value)} {oc_common_post kV_common_post dc_common_post pm_common_post cd_common_post ct_common_post : Value} {f_common_post : Addr}
    {od_l_cell an_l_cell : Option Addr} {sl_l_cell : Array (Option Value)} {oc_l_cell kV_l_cell dc_l_cell pm_l_cell cd_l_cell ct_l_cell : Value} {f_l_cell : Addr}
    {od_l_hash an_l_hash : Option Addr} {sl_l_hash : Array (Option Value)} {oc_l_hash kV_l_hash dc_l_hash pm_l_hash cd_l_hash ct_l_hash : Value} {f_l_hash : Addr}
    {od_l_generator an_l_generator : Option Addr} {sl_l_generator : Array (Option Value)} {oc_l_generator kV_l_generator dc_l_generator pm_l_generator cd_l_generator ct_l_generator : Value} {f_l_generator : Addr}
    {od_l_random an_l_random : Option Addr} {sl_l_random : Array (Option Value)} {oc_l_random kV_l_random dc_l_random pm_l_random cd_l_random ct_l_random : Value} {f_l_random : Addr}
    {od_l_random_chart an_l_random_chart : Option Addr} {sl_l_random_chart : Array (Option Value)} {oc_l_random_chart kV_l_random_chart dc_l_random_chart pm_l_random_chart cd_l_random_chart ct_l_random_chart : Value} {f_l_random_chart : Addr}
    {od_l_way an_l_way : Option Addr} {sl_l_way : Array (Option Value)} {oc_l_way kV_l_way dc_l_way pm_l_way cd_l_way ct_l_way : Value} {f_l_way : Addr}
    {od_l_post_right an_l_post_right : Option Addr} {sl_l_post_right : Array (Option Value)} {oc_l_post_right kV_l_post_right dc_l_post_right pm_l_post_right cd_l_post_right ct_l_post_right : Value} {f_l_post_right : Addr}
    {od_l_pair_right an_l_pair_right : Option Addr} {sl_l_pair_right : Array (Option Value)} {oc_l_pair_right kV_l_pair_right dc_l_pair_right pm_l_pair_right cd_l_pair_right ct_l_pair_right : Value} {f_l_pair_right : Addr}
    {od_law an_law : Option Addr} {sl_law : Array (Option Value)} {oc_law kV_law dc_law pm_law cd_law ct_law : Value} {f_law : Addr}
    (a_is_whole : PySem.W.nsIn K mainGlobals "is_whole" = some (some (.ref f_is_whole)))
    (l_is_whole : K.lookup f_is_whole = some ⟨oc_is_whole, od_is_whole, .func (PySem.W.fnOf "is_whole" "is_whole" (defArgs s_is_whole) (defBody s_is_whole) (defScope s_is_whole) .none kV_is_whole dc_is_whole pm_is_whole an_is_whole cd_is_whole ct_is_whole), sl_is_whole⟩)
    (c_is_whole : PySem.W.codeIn K cd_is_whole "is_whole" = true)
    (k_is_whole : PySem.W.keepIn K (.ref f_is_whole) = true)
    (a_is_post : PySem.W.nsIn K mainGlobals "is_post" = some (some (.ref f_is_post)))
    (l_is_post : K.lookup f_is_post = some ⟨oc_is_post, od_is_post, .func (PySem.W.fnOf "is_post" "is_post" (defArgs s_is_post) (defBody s_is_post) (defScope s_is_post) .none kV_is_post dc_is_post pm_is_post an_is_post cd_is_post ct_is_post), sl_is_post⟩)
    (c_is_post : PySem.W.codeIn K cd_is_post "is_post" = true)
    (k_is_post : PySem.W.keepIn K (.ref f_is_post) = true)
    (a_check_chart : PySem.W.nsIn K mainGlobals "check_chart" = some (some (.ref f_check_chart)))
    (l_check_chart : K.lookup f_check_chart = some ⟨oc_check_chart, od_check_chart, .func (PySem.W.fnOf "check_chart" "check_chart" (defArgs s_check_chart) (defBody s_check_chart) (defScope s_check_chart) .none kV_check_chart dc_check_chart pm_check_chart an_check_chart cd_check_chart ct_check_chart), sl_check_chart⟩)
    (c_check_chart : PySem.W.codeIn K cd_check_chart "check_chart" = true)
    (k_check_chart : PySem.W.keepIn K (.ref f_check_chart) = true)
    (a_require_chart : PySem.W.nsIn K mainGlobals "require_chart" = some (some (.ref f_require_chart)))
    (l_require_chart : K.lookup f_require_chart = some ⟨oc_require_chart, od_require_chart, .func (PySem.W.fnOf "require_chart" "require_chart" (defArgs s_require_chart) (defBody s_require_chart) (defScope s_require_chart) .none kV_require_chart dc_require_chart pm_require_chart an_require_chart cd_require_chart ct_require_chart), sl_require_chart⟩)
    (c_require_chart : PySem.W.codeIn K cd_require_chart "require_chart" = true)
    (k_require_chart : PySem.W.keepIn K (.ref f_require_chart) = true)
    (a_require_post : PySem.W.nsIn K mainGlobals "require_post" = some (some (.ref f_require_post)))
    (l_require_post : K.lookup f_require_post = some ⟨oc_require_post, od_require_post, .func (PySem.W.fnOf "require_post" "require_post" (defArgs s_require_post) (defBody s_require_post) (defScope s_require_post) .none kV_require_post dc_require_post pm_require_post an_require_post cd_require_post ct_require_post), sl_require_post⟩)
    (c_require_post : PySem.W.codeIn K cd_require_post "require_post" = true)
    (k_require_post : PySem.W.keepIn K (.ref f_require_post) = true)
    (a_path_to : PySem.W.nsIn K mainGlobals "path_to" = some (some (.ref f_path_to)))
    (l_path_to : K.lookup f_path_to = some ⟨oc_path_to, od_path_to, .func (PySem.W.fnOf "path_to" "path_to" (defArgs s_path_to) (defBody s_path_to) (defScope s_path_to) .none kV_path_to dc_path_to pm_path_to an_path_to cd_path_to ct_path_to), sl_path_to⟩)
    (c_path_to : PySem.W.codeIn K cd_path_to "path_to" = true)
    (k_path_to : PySem.W.keepIn K (.ref f_path_to) = true)
    (a_posts_below : PySem.W.nsIn K mainGlobals "posts_below" = some (some (.ref f_posts_below)))
    (l_posts_below : K.lookup f_posts_below = some ⟨oc_posts_below, od_posts_below, .func (PySem.W.fnOf "posts_below" "posts_below" (defArgs s_posts_below) (defBody s_posts_below) (defScope s_posts_below) .none kV_posts_below dc_posts_below pm_posts_below an_posts_below cd_posts_below ct_posts_below), sl_posts_below⟩)
    (c_posts_below : PySem.W.codeIn K cd_posts_below "posts_below" = true)
    (k_posts_below : PySem.W.keepIn K (.ref f_posts_below) = true)
    (a_common_post : PySem.W.nsIn K mainGlobals "common_post" = some (some (.ref f_common_post)))
    (l_common_post : K.lookup f_common_post = some ⟨oc_common_post, od_common_post, .func (PySem.W.fnOf "common_post" "common_post" (defArgs s_common_post) (defBody s_common_post) (defScope s_common_post) .none kV_common_post dc_common_post pm_common_post an_common_post cd_common_post ct_common_post), sl_common_post⟩)
    (c_common_post : PySem.W.codeIn K cd_common_post "common_post" = true)
    (k_common_post : PySem.W.keepIn K (.ref f_common_post) = true)
    (a_l_cell : PySem.W.nsIn K mainGlobals "_law_cell" = some (some (.ref f_l_cell)))
    (l_l_cell : K.lookup f_l_cell = some ⟨oc_l_cell, od_l_cell, .func (PySem.W.fnOf "_law_cell" "_law_cell" (defArgs s_l_cell) (defBody s_l_cell) (defScope s_l_cell) .none kV_l_cell dc_l_cell pm_l_cell an_l_cell cd_l_cell ct_l_cell), sl_l_cell⟩)
    (c_l_cell : PySem.W.codeIn K cd_l_cell "_law_cell" = true)
    (k_l_cell : PySem.W.keepIn K (.ref f_l_cell) = true)
    (a_l_hash : PySem.W.nsIn K mainGlobals "_law_hash" = some (some (.ref f_l_hash)))
    (l_l_hash : K.lookup f_l_hash = some ⟨oc_l_hash, od_l_hash, .func (PySem.W.fnOf "_law_hash" "_law_hash" (defArgs s_l_hash) (defBody s_l_hash) (defScope s_l_hash) .none kV_l_hash dc_l_hash pm_l_hash an_l_hash cd_l_hash ct_l_hash), sl_l_hash⟩)
    (c_l_hash : PySem.W.codeIn K cd_l_hash "_law_hash" = true)
    (k_l_hash : PySem.W.keepIn K (.ref f_l_hash) = true)
    (a_l_generator : PySem.W.nsIn K mainGlobals "_law_generator" = some (some (.ref f_l_generator)))
    (l_l_generator : K.lookup f_l_generator = some ⟨oc_l_generator, od_l_generator, .func (PySem.W.fnOf "_law_generator" "_law_generator" (defArgs s_l_generator) (defBody s_l_generator) (defScope s_l_generator) .none kV_l_generator dc_l_generator pm_l_generator an_l_generator cd_l_generator ct_l_generator), sl_l_generator⟩)
    (c_l_generator : PySem.W.codeIn K cd_l_generator "_law_generator" = true)
    (k_l_generator : PySem.W.keepIn K (.ref f_l_generator) = true)
    (a_l_random : PySem.W.nsIn K mainGlobals "_law_random" = some (some (.ref f_l_random)))
    (l_l_random : K.lookup f_l_random = some ⟨oc_l_random, od_l_random, .func (PySem.W.fnOf "_law_random" "_law_random" (defArgs s_l_random) (defBody s_l_random) (defScope s_l_random) .none kV_l_random dc_l_random pm_l_random an_l_random cd_l_random ct_l_random), sl_l_random⟩)
    (c_l_random : PySem.W.codeIn K cd_l_random "_law_random" = true)
    (k_l_random : PySem.W.keepIn K (.ref f_l_random) = true)
    (a_l_random_chart : PySem.W.nsIn K mainGlobals "_law_random_chart" = some (some (.ref f_l_random_chart)))
    (l_l_random_chart : K.lookup f_l_random_chart = some ⟨oc_l_random_chart, od_l_random_chart, .func (PySem.W.fnOf "_law_random_chart" "_law_random_chart" (defArgs s_l_random_chart) (defBody s_l_random_chart) (defScope s_l_random_chart) .none kV_l_random_chart dc_l_random_chart pm_l_random_chart an_l_random_chart cd_l_random_chart ct_l_random_chart), sl_l_random_chart⟩)
    (c_l_random_chart : PySem.W.codeIn K cd_l_random_chart "_law_random_chart" = true)
    (k_l_random_chart : PySem.W.keepIn K (.ref f_l_random_chart) = true)
    (a_l_way : PySem.W.nsIn K mainGlobals "_law_way" = some (some (.ref f_l_way)))
    (l_l_way : K.lookup f_l_way = some ⟨oc_l_way, od_l_way, .func (PySem.W.fnOf "_law_way" "_law_way" (defArgs s_l_way) (defBody s_l_way) (defScope s_l_way) .none kV_l_way dc_l_way pm_l_way an_l_way cd_l_way ct_l_way), sl_l_way⟩)
    (c_l_way : PySem.W.codeIn K cd_l_way "_law_way" = true)
    (k_l_way : PySem.W.keepIn K (.ref f_l_way) = true)
    (a_l_post_right : PySem.W.nsIn K mainGlobals "_law_post_right" = some (some (.ref f_l_post_right)))
    (l_l_post_right : K.lookup f_l_post_right = some ⟨oc_l_post_right, od_l_post_right, .func (PySem.W.fnOf "_law_post_right" "_law_post_right" (defArgs s_l_post_right) (defBody s_l_post_right) (defScope s_l_post_right) .none kV_l_post_right dc_l_post_right pm_l_post_right an_l_post_right cd_l_post_right ct_l_post_right), sl_l_post_right⟩)
    (c_l_post_right : PySem.W.codeIn K cd_l_post_right "_law_post_right" = true)
    (k_l_post_right : PySem.W.keepIn K (.ref f_l_post_right) = true)
    (a_l_pair_right : PySem.W.nsIn K mainGlobals "_law_pair_right" = some (some (.ref f_l_pair_right)))
    (l_l_pair_right : K.lookup f_l_pair_right = some ⟨oc_l_pair_right, od_l_pair_right, .func (PySem.W.fnOf "_law_pair_right" "_law_pair_right" (defArgs s_l_pair_right) (defBody s_l_pair_right) (defScope s_l_pair_right) .none kV_l_pair_right dc_l_pair_right pm_l_pair_right an_l_pair_right cd_l_pair_right ct_l_pair_right), sl_l_pair_right⟩)
    (c_l_pair_right : PySem.W.codeIn K cd_l_pair_right "_law_pair_right" = true)
    (k_l_pair_right : PySem.W.keepIn K (.ref f_l_pair_right) = true)
    (a_law : PySem.W.nsIn K mainGlobals "law" = some (some (.ref f_law)))
    (l_law : K.lookup f_law = some ⟨oc_law, od_law, .func (PySem.W.fnOf "law" "law" (defArgs s_law) (defBody s_law) (defScope s_law) .none kV_law dc_law pm_law an_law cd_law ct_law), sl_law⟩)
    (c_law : PySem.W.codeIn K cd_law "law" = true)
    (k_law : PySem.W.keepIn K (.ref f_law) = true)
    (z_bool : PySem.W.nsIn K mainGlobals "bool" = some none)
    (z_int : PySem.W.nsIn K mainGlobals "int" = some none)
    (z_isinstance : PySem.W.nsIn K mainGlobals "isinstance" = some none)
    (z_len : PySem.W.nsIn K mainGlobals "len" = some none)
    (z_max : PySem.W.nsIn K mainGlobals "max" = some none)
    (z_min : PySem.W.nsIn K mainGlobals "min" = some none)
    (z_range : PySem.W.nsIn K mainGlobals "range" = some none)
    (z_repr : PySem.W.nsIn K mainGlobals "repr" = some none)
    (z_sorted : PySem.W.nsIn K mainGlobals "sorted" = some none)
    (z_str : PySem.W.nsIn K mainGlobals "str" = some none)
    (z_tuple : PySem.W.nsIn K mainGlobals "tuple" = some none) :
    ∃ fd : FuncData, (∀ (s : Shared) (v : Value), BindsTo s fd ⟨[v], []⟩ [("_law_script", v)]) ∧ ∀ base : Heap, K.In base → base.Ns mainGlobals mg → FnOk l.prog w K mg base CX0 7 fa fd ["_law_script"] (spLaw K) := by
  have e := hfa.symm.trans (PySem.W.mg_of X G a_law)
  cases e
  have F_is_whole := fun_mk (st := s_is_whole) l_is_whole c_is_whole k_is_whole
  have B_is_whole : Binds K _ P_is_whole [] := F_is_whole.binds (ps := P_is_whole) fun _ _ _ _ _ _ us hl => match us, hl with | [_], _ => rfl
  have F_is_post := fun_mk (st := s_is_post) l_is_post c_is_post k_is_post
  have B_is_post : Binds K _ P_is_post [] := F_is_post.binds (ps := P_is_post) fun _ _ _ _ _ _ us hl => match us, hl with | [_, _], _ => rfl
  have F_check_chart := fun_mk (st := s_check_chart) l_check_chart c_check_chart k_check_chart
  have B_check_chart : Binds K _ P_check_chart [] := F_check_chart.binds (ps := P_check_chart) fun _ _ _ _ _ _ us hl => match us, hl with | [_], _ => rfl
  have F_require_chart := fun_mk (st := s_require_chart) l_require_chart c_require_chart k_require_chart
  have B_require_chart : Binds K _ P_require_chart [] := F_require_chart.binds (ps := P_require_chart) fun _ _ _ _ _ _ us hl => match us, hl with | [_], _ => rfl
  have F_require_post := fun_mk (st := s_require_post) l_require_post c_require_post k_require_post
  have B_require_post : Binds K _ P_require_post [] := F_require_post.binds (ps := P_require_post) fun _ _ _ _ _ _ us hl => match us, hl with | [_, _], _ => rfl
  have F_path_to := fun_mk (st := s_path_to) l_path_to c_path_to k_path_to
  have B_path_to : Binds K _ P_path_to [] := F_path_to.binds (ps := P_path_to) fun _ _ _ _ _ _ us hl => match us, hl with | [_, _], _ => rfl
  have F_posts_below := fun_mk (st := s_posts_below) l_posts_below c_posts_below k_posts_below
  have B_posts_below : Binds K _ P_posts_below [] := F_posts_below.binds (ps := P_posts_below) fun _ _ _ _ _ _ us hl => match us, hl with | [_, _], _ => rfl
  have F_common_post := fun_mk (st := s_common_post) l_common_post c_common_post k_common_post
  have B_common_post : Binds K _ P_common_post [] := F_common_post.binds (ps := P_common_post) fun _ _ _ _ _ _ us hl => match us, hl with | [_, _, _], _ => rfl
  have F_l_cell := fun_mk (st := s_l_cell) l_l_cell c_l_cell k_l_cell
  have B_l_cell : Binds K _ P_l_cell [] := F_l_cell.binds (ps := P_l_cell) fun _ _ _ _ _ _ us hl => match us, hl with | [_, _], _ => rfl
  have F_l_hash := fun_mk (st := s_l_hash) l_l_hash c_l_hash k_l_hash
  have B_l_hash : Binds K _ P_l_hash [] := F_l_hash.binds (ps := P_l_hash) fun _ _ _ _ _ _ us hl => match us, hl with | [_, _], _ => rfl
  have F_l_generator := fun_mk (st := s_l_generator) l_l_generator c_l_generator k_l_generator
  have B_l_generator : Binds K _ P_l_generator [] := F_l_generator.binds (ps := P_l_generator) fun _ _ _ _ _ _ us hl => match us, hl with | [_, _], _ => rfl
  have F_l_random := fun_mk (st := s_l_random) l_l_random c_l_random k_l_random
  have B_l_random : Binds K _ P_l_random [] := F_l_random.binds (ps := P_l_random) fun _ _ _ _ _ _ us hl => match us, hl with | [_, _], _ => rfl
  have F_l_random_chart := fun_mk (st := s_l_random_chart) l_l_random_chart c_l_random_chart k_l_random_chart
  have B_l_random_chart : Binds K _ P_l_random_chart [] := F_l_random_chart.binds (ps := P_l_random_chart) fun _ _ _ _ _ _ us hl => match us, hl with | [_, _], _ => rfl
  have F_l_way := fun_mk (st := s_l_way) l_l_way c_l_way k_l_way
  have B_l_way : Binds K _ P_l_way [] := F_l_way.binds (ps := P_l_way) fun _ _ _ _ _ _ us hl => match us, hl with | [_, _], _ => rfl
  have F_l_post_right := fun_mk (st := s_l_post_right) l_l_post_right c_l_post_right k_l_post_right
  have B_l_post_right : Binds K _ P_l_post_right [] := F_l_post_right.binds (ps := P_l_post_right) fun _ _ _ _ _ _ us hl => match us, hl with | [_, _], _ => rfl
  have F_l_pair_right := fun_mk (st := s_l_pair_right) l_l_pair_right c_l_pair_right k_l_pair_right
  have B_l_pair_right : Binds K _ P_l_pair_right [] := F_l_pair_right.binds (ps := P_l_pair_right) fun _ _ _ _ _ _ us hl => match us, hl with | [_, _, _], _ => rfl
  have F_law := fun_mk (st := s_law) l_law c_law k_law
  have B_law : Binds K _ P_law [] := F_law.binds (ps := P_law) fun _ _ _ _ _ _ us hl => match us, hl with | [_], _ => rfl
  let T : Tx K mg := { a_is_whole := f_is_whole, d_is_whole := _, f_is_whole := F_is_whole, b_is_whole := B_is_whole, m_is_whole := PySem.W.mg_of X G a_is_whole, a_is_post := f_is_post, d_is_post := _, f_is_post := F_is_post, b_is_post := B_is_post, m_is_post := PySem.W.mg_of X G a_is_post, a_check_chart := f_check_chart, d_check_chart := _, f_check_chart := F_check_chart, b_check_chart := B_check_chart, m_check_chart := PySem.W.mg_of X G a_check_chart, a_require_chart := f_require_chart, d_require_chart := _, f_require_chart := F_require_chart, b_require_chart := B_require_chart, m_require_chart := PySem.W.mg_of X G a_require_chart, a_require_post := f_require_post, d_require_post := _, f_require_post := F_require_post, b_require_post := B_require_post, m_require_post := PySem.W.mg_of X G a_require_post, a_path_to := f_path_to, d_path_to := _, f_path_to := F_path_to, b_path_to := B_path_to, m_path_to := PySem.W.mg_of X G a_path_to, a_posts_below := f_posts_below, d_posts_below := _, f_posts_below := F_posts_below, b_posts_below := B_posts_below, m_posts_below := PySem.W.mg_of X G a_posts_below, a_common_post := f_common_post, d_common_post := _, f_common_post := F_common_post, b_common_post := B_common_post, m_common_post := PySem.W.mg_of X G a_common_post, a_l_cell := f_l_cell, d_l_cell := _, f_l_cell := F_l_cell, b_l_cell := B_l_cell, m_l_cell := PySem.W.mg_of X G a_l_cell, a_l_hash := f_l_hash, d_l_hash := _, f_l_hash := F_l_hash, b_l_hash := B_l_hash, m_l_hash := PySem.W.mg_of X G a_l_hash, a_l_generator := f_l_generator, d_l_generator := _, f_l_generator := F_l_generator, b_l_generator := B_l_generator, m_l_generator := PySem.W.mg_of X G a_l_generator, a_l_random := f_l_random, d_l_random := _, f_l_random := F_l_random, b_l_random := B_l_random, m_l_random := PySem.W.mg_of X G a_l_random, a_l_random_chart := f_l_random_chart, d_l_random_chart := _, f_l_random_chart := F_l_random_chart, b_l_random_chart := B_l_random_chart, m_l_random_chart := PySem.W.mg_of X G a_l_random_chart, a_l_way := f_l_way, d_l_way := _, f_l_way := F_l_way, b_l_way := B_l_way, m_l_way := PySem.W.mg_of X G a_l_way, a_l_post_right := f_l_post_right, d_l_post_right := _, f_l_post_right := F_l_post_right, b_l_post_right := B_l_post_right, m_l_post_right := PySem.W.mg_of X G a_l_post_right, a_l_pair_right := f_l_pair_right, d_l_pair_right := _, f_l_pair_right := F_l_pair_right, b_l_pair_right := B_l_pair_right, m_l_pair_right := PySem.W.mg_of X G a_l_pair_right, a_law := fa, d_law := _, f_law := F_law, b_law := B_law, m_law := PySem.W.mg_of X G a_law, z_bool := PySem.W.mg_none_of X G z_bool, z_int := PySem.W.mg_none_of X G z_int, z_isinstance := PySem.W.mg_none_of X G z_isinstance, z_len := PySem.W.mg_none_of X G z_len, z_max := PySem.W.mg_none_of X G z_max, z_min := PySem.W.mg_none_of X G z_min, z_range := PySem.W.mg_none_of X G z_range, z_repr := PySem.W.mg_none_of X G z_repr, z_sorted := PySem.W.mg_none_of X G z_sorted, z_str := PySem.W.mg_none_of X G z_str, z_tuple := PySem.W.mg_none_of X G z_tuple }
  exact ⟨_, fun s v => .of_eq rfl, fun base _ _ => ok_law T⟩
end Law
open PySem PySem.W PyProof.Rows in
set_option maxRecDepth 100000 in
set_option maxHeartbeats 0 in
theorem PySem.Challenge.cw_movingup_k03_paths_and_posts_holds : PySem.Challenge.rw_movingup_k03_paths_and_posts.Holds := by
  w_on; o_law; k_head; (case hw => w_witness2)
  k_fill
  refine L2.walk_of (l := PySem.Challenge.rw_movingup_k03_paths_and_posts) (n := 63) (k := 7) (x := "_law_script") (CX := fun _ => L2.CX0) (sp := fun w => Law.spLaw _) rfl (by decide) rfl ⟨rfl, by decide, by decide⟩ (fun w h Y => PySem.W.kIn_of Y) ?F (fun _ _ a ns hl _ hS => ⟨a, ns, rfl, hS, hl, fun _ => rfl⟩) (fun _ _ _ _ _ h => h)
  case F =>
    intro w mg fa h KX G hmg
    refine' Law.all_mk KX G hmg ?a_is_whole ?l_is_whole ?c_is_whole ?k_is_whole ?a_is_post ?l_is_post ?c_is_post ?k_is_post ?a_check_chart ?l_check_chart ?c_check_chart ?k_check_chart ?a_require_chart ?l_require_chart ?c_require_chart ?k_require_chart ?a_require_post ?l_require_post ?c_require_post ?k_require_post ?a_path_to ?l_path_to ?c_path_to ?k_path_to ?a_posts_below ?l_posts_below ?c_posts_below ?k_posts_below ?a_common_post ?l_common_post ?c_common_post ?k_common_post ?a_l_cell ?l_l_cell ?c_l_cell ?k_l_cell ?a_l_hash ?l_l_hash ?c_l_hash ?k_l_hash ?a_l_generator ?l_l_generator ?c_l_generator ?k_l_generator ?a_l_random ?l_l_random ?c_l_random ?k_l_random ?a_l_random_chart ?l_l_random_chart ?c_l_random_chart ?k_l_random_chart ?a_l_way ?l_l_way ?c_l_way ?k_l_way ?a_l_post_right ?l_l_post_right ?c_l_post_right ?k_l_post_right ?a_l_pair_right ?l_l_pair_right ?c_l_pair_right ?k_l_pair_right ?a_law ?l_law ?c_law ?k_law ?z_bool ?z_int ?z_isinstance ?z_len ?z_max ?z_min ?z_range ?z_repr ?z_sorted ?z_str ?z_tuple
    (case a_is_whole => k_is); (case l_is_whole => k_is); (case c_is_whole => k_is); (case k_is_whole => k_is); (case a_is_post => k_is); (case l_is_post => k_is); (case c_is_post => k_is); (case k_is_post => k_is); (case a_check_chart => k_is); (case l_check_chart => k_is); (case c_check_chart => k_is); (case k_check_chart => k_is); (case a_require_chart => k_is); (case l_require_chart => k_is); (case c_require_chart => k_is); (case k_require_chart => k_is); (case a_require_post => k_is); (case l_require_post => k_is); (case c_require_post => k_is); (case k_require_post => k_is); (case a_path_to => k_is); (case l_path_to => k_is); (case c_path_to => k_is); (case k_path_to => k_is); (case a_posts_below => k_is); (case l_posts_below => k_is); (case c_posts_below => k_is); (case k_posts_below => k_is); (case a_common_post => k_is); (case l_common_post => k_is); (case c_common_post => k_is); (case k_common_post => k_is); (case a_l_cell => k_is); (case l_l_cell => k_is); (case c_l_cell => k_is); (case k_l_cell => k_is); (case a_l_hash => k_is); (case l_l_hash => k_is); (case c_l_hash => k_is); (case k_l_hash => k_is); (case a_l_generator => k_is); (case l_l_generator => k_is); (case c_l_generator => k_is); (case k_l_generator => k_is); (case a_l_random => k_is); (case l_l_random => k_is); (case c_l_random => k_is); (case k_l_random => k_is); (case a_l_random_chart => k_is); (case l_l_random_chart => k_is); (case c_l_random_chart => k_is); (case k_l_random_chart => k_is); (case a_l_way => k_is); (case l_l_way => k_is); (case c_l_way => k_is); (case k_l_way => k_is); (case a_l_post_right => k_is); (case l_l_post_right => k_is); (case c_l_post_right => k_is); (case k_l_post_right => k_is); (case a_l_pair_right => k_is); (case l_l_pair_right => k_is); (case c_l_pair_right => k_is); (case k_l_pair_right => k_is); (case a_law => k_is); (case l_law => k_is); (case c_law => k_is); (case k_law => k_is); (case z_bool => k_is); (case z_int => k_is); (case z_isinstance => k_is); (case z_len => k_is); (case z_max => k_is); (case z_min => k_is); (case z_range => k_is); (case z_repr => k_is); (case z_sorted => k_is); (case z_str => k_is); (case z_tuple => k_is)

import PyProof.Rows.All
import Wide.All
import OpenK.AllK
import Wide.FinOn
import HandS.ForMost
import HandS.Wide
import HandS.WideBits
import HandS.Flow
import HandS.TupAny
import HandS.TupMul
import HandS.Strs
import HandS.SortInts
import HandS.IsInst
import HandS.Deep
import HandS.RaiseMore
import KE.GoesEnum
import HandS.NoneIn
import HandS.SetKeys
import HandS.TupLen
import PyProof.ReprRoads
import PyProof.ReprLen
import KE.DataMinMax
import HandS.Star
import HandS.Style
import KE.SortData
import HandS.SortKw
import PySem.Challenge.RW_movingup_k80_whole_departures_in_any_ord
set_option Elab.async false
set_option linter.all false
set_option maxRecDepth 100000
set_option maxHeartbeats 4000000
namespace MU
open PySem PySem.Spec PyProof.Rows L2
/-! tuples that are known to have no dict of their own: they stand as frozen ones -/
def NoD (H : Hp) : Prop := ∀ a, (∀ xs, H a ≠ some (.tup xs)) ∧ ∀ o xs, H a = some (.frz o (.tup xs)) → o.dict = none
structure OkO (o : HO) : Prop where
  nt : ∀ xs, o ≠ .tup xs
  nd : ∀ ob xs, o = .frz ob (.tup xs) → ob.dict = none
theorem ok_tup {ob : Obj} {xs : List V} (h : ob.dict = none) : OkO (.frz ob (.tup xs)) := ⟨fun _ z => (by cases z), fun _ _ z => (by cases z; exact h)⟩
theorem ok_lst {xs : List V} : OkO (.lst xs) := ⟨fun _ z => (by cases z), fun _ _ z => (by cases z)⟩
theorem NoD.put {H : Hp} {p : Addr} {o : HO} (h : NoD H) (k : OkO o) : NoD (upd H p o) := fun a => by
  by_cases e : a = p
  · subst e
    rw [upd_same]
    exact ⟨fun xs z => k.nt xs (Option.some.inj z), fun ob xs z => k.nd ob xs (Option.some.inj z)⟩
  · rw [upd_ne e]
    exact h a
/-- a new tuple at p -/
def NewT (H : Hp) (p : Addr) (ys : List V) (Q : VK) : Prop := ∀ o : Obj, o.dict = none → Q (.ref p) (upd H p (.frz o (.tup ys)))
section
variable {X : Cx}
theorem laidT {pins : List (Addr × Obj)} {σ : L2.St} {H : Hp} {s : Shared} {h' : Heap} {tk : Tok} {ys : List V} {its : List Value} {Q : VK} (I : Inv X pins σ H { s with heap := h', toks := tk }) (r : Vals ys its) (hl : ys.length ≤ sizeLine)
    (q : ∀ p, H p = none → NewT H p ys Q) : EP X pins σ Q (.ref h'.objs.size) { s with heap := h'.push { cls := .type "tuple", data := .seq its.toArray }, toks := tk } := by
  have got : (h'.push { cls := .type "tuple", data := .seq its.toArray }).get? h'.objs.size = some { cls := .type "tuple", data := .seq its.toArray } := Heap.get?_push_size _ rfl
  refine ⟨.ref h'.objs.size, _, I.laid (t' := tk) (o := .frz { cls := .type "tuple", data := .seq its.toArray } (.tup ys)) (fun b o e => Heap.get?_push_of_some _ e) (Nat.le_refl _) ⟨got, hl, its, r, _, got, rfl, _, rfl⟩, rfl, q _ (I.hok.fresh (Nat.le_refl _)) _ rfl⟩
/-- a tuple display -/
def tTupN (t : TA) : TE := fun σ H Q => t σ H fun xs H1 => xs.length ≤ sizeLine ∧ ∀ p, H1 p = none → NewT H1 p xs Q
theorem pe_tupN {es : List Expr} {t : TA} {pos : Pos} {x1} (h : PA X es t) : PE X (.Tuple es x1 pos) (tTupN t) :=
  ⟨fun pins s σ H Q I hq => wpAny_Tuple_spliced (thn (h.run pos pins s σ H _ I hq) fun us s1 ⟨xs, H1, I1, r, z, q⟩ => ⟨by rw [← r.length]; exact z, laidT (s := s1) (h' := s1.heap) (tk := s1.toks) I1 r z q⟩)⟩
/-- tuple(xs) -/
def rTupOfN (K : PySem.W.Frag) : List V → Hp → VK → Prop := fun xs H Q => ∃ p ys, xs = [.ref p] ∧ ((SqL K H p ys ∧ ∀ l, H l = none → NewT H l ys Q) ∨ (SqT K H p ys ∧ Q (.ref p) H))
theorem cr_tupOfN : CallR X (.type "tuple") (rTupOfN X.K) := by
  intro pins s σ H xs us Q I r ⟨p, ys, e, h⟩
  subst e
  obtain ⟨u, rfl, rx⟩ := vals1 r
  cases rx
  rcases h with ⟨hq, q⟩ | ⟨hq, q⟩
  · obtain ⟨its, rv, pl, hz⟩ := I.list hq
    exact call_tuple_list pl.isList (fun h' kp => laidT (s := s) (h' := h') (tk := s.toks) (I.kept (t' := s.toks) kp) rv hz q) (by have := rv.length; simp only [List.size_toArray] <;> omega)
  · obtain ⟨its, _, pl, _⟩ := I.tuple hq
    exact call_tuple_same pl ⟨.ref p,
          H, I, rfl, q⟩
/-- t + u -/
def rCatN (K : PySem.W.Frag) : R2 := fun x y H Q => ∃ a b xs ys, x = .ref a ∧ y = .ref b ∧ SqT K H a xs ∧ SqT K H b ys ∧ xs.length + ys.length ≤ sizeLine ∧
  (xs = [] → Q (.ref b) H) ∧ (xs ≠ [] → ys = [] → Q (.ref a) H) ∧ (xs ≠ [] → ys ≠ [] → ∀ p, H p = none → NewT H p (xs ++ ys) Q)
theorem op_catN : OpR X (binaryOp .Add) (rCatN X.K) := by
  intro pins s σ H x y v u Q I rx ry ⟨a, b, xs, ys, ex, ey, ha, hb, hz, q0, q1, q2⟩
  subst ex ey
  cases rx
  cases ry
  obtain ⟨its, r1, p1, _⟩ := I.tuple ha
  obtain ⟨its2, r2, p2, _⟩ := I.tuple hb
  by_cases c : xs = []
  · subst c
    cases r1
    exact cat_tup0 p1 p2 ⟨.ref b,
          H, I, rfl, q0 rfl⟩
  · refine HT.cat_tup p1 p2 (fun z => c (r1.nil_iff.mp z)) (fun z => ⟨.ref a, H, I, rfl, q1 c (r2.nil_iff.mp z)⟩) (fun z => ?_) (by rw [← r1.length, ← r2.length]; exact hz)
    exact laidT (s := s) (h' := s.heap) (tk := s.toks) I (r1.append r2) (by rw [List.length_append]; exact hz) (q2 c fun w => z (r2.nil_iff.mpr w))
/-- t[i:j] -/
def rSlN (K : PySem.W.Frag) : V → Option Int → Option Int → Hp → VK → Prop := fun x lo hi H Q => ∃ a xs, x = .ref a ∧ SqT K H a xs ∧
  (HT.sIx xs.length 0 lo = 0 ∧ HT.sIx xs.length xs.length hi = xs.length → Q (.ref a) H) ∧ (¬ (HT.sIx xs.length 0 lo = 0 ∧ HT.sIx xs.length xs.length hi = xs.length) → ∀ p, H p = none → NewT H p (cutV xs lo hi) Q)
theorem sl_tupN : SlR X (rSlN X.K) := by
  intro pins s σ H x v vl vu lo hi sl Q I rx hs pl pu ⟨a, xs, ex, hx, q1, q2⟩
  subst ex
  cases rx
  obtain ⟨its, r, ht, hz⟩ := I.tuple hx
  have len : its.toArray.size = xs.length := by rw [List.size_toArray]; exact r.length.symm
  refine ⟨"tuple", _,
        PyProof.Rows.slot_tuple_getitem.lookup, ht.typeIs, ?_⟩
  by_cases c : HT.sIx xs.length 0 lo = 0 ∧ HT.sIx xs.length xs.length hi = xs.length
  · exact getItem_tuple_whole ht hs pl pu (by rw [len]; exact c) ⟨.ref a, H, I, rfl, q1 c⟩
  · refine HT.getItem_tuple_cut ht hs pl pu (by rw [len]; exact c) ?_ (by rw [len]; exact hz)
    rw [len]
    exact laidT (s := s) (h' := s.heap) (tk := s.toks) I ((r.drop (HT.sIx xs.length 0 lo)).take (HT.sIx xs.length xs.length hi - HT.sIx xs.length 0 lo)) (Nat.le_trans (cutV_length xs lo hi) hz) (q2 c)
end
end MU

namespace MU
open PySem PySem.Spec L2
abbrev PD := PyData
/-! ## heaps that grow -/
theorem sqt_up {K : PySem.W.Frag} {H H' : Hp} {a : Addr} {xs : List V} (e : Same H H') (h : SqT K H a xs) : SqT K H' a xs := by
  rcases h with (h | ⟨o, h⟩) | h
  · exact .inl (.inl (e _ _ h))
  · exact .inl (.inr ⟨o, e _ _ h⟩)
  · exact .inr h
mutual
theorem dp_up {K : PySem.W.Frag} {H H' : Hp} (e : Same H H') : ∀ (d : PD) (v : V), Dp K H v d → Dp K H' v d
  | .none, _, h => by cases h; exact .non
  | .bool b, _, h => by cases h; exact .bl b
  | .int i, _, h => by cases h; exact .int i
  | .str x, _, h => by cases h; exact .str x
  | .list ds, _, h => by
    cases h with
    | lst hs ha => exact .lst (e.seq hs) (da_up e ds _ ha)
  | .tuple ds, _, h => by
    cases h with
    | tup hs ha => exact .tup (sqt_up e hs) (da_up e ds _ ha)
  | .dict _, _, h => by cases h
theorem da_up {K : PySem.W.Frag} {H H' : Hp} (e : Same H H') : ∀ (ds : List PD) (vs : List V), DpAll K H vs ds → DpAll K H' vs ds
  | [], _, h => by cases h; exact .nil
  | d :: ds, _, h => by
    cases h with
    | cons h1 h2 => exact .cons (dp_up e d _ h1) (da_up e ds _ h2)
end
theorem da_len {K : PySem.W.Frag} {H : Hp} : ∀ {vs : List V} {ds : List PD}, DpAll K H vs ds → vs.length = ds.length
  | _, _, .nil => rfl
  | _, _, .cons _ t => by rw [List.length_cons, List.length_cons, da_len t]
theorem da_get {K : PySem.W.Frag} {H : Hp} : ∀ {vs : List V} {ds : List PD} {i : Nat} {d : PD}, DpAll K H vs ds → ds[i]? = some d → ∃ v, vs[i]? = some v ∧ Dp K H v d
  | _, _, _, _, .nil, e => by simp at e
  | _, _, 0, _, .cons r _, e => ⟨_, rfl, Option.some.inj e ▸ r⟩
  | _, _, i + 1, _, .cons _ t, e => by
    obtain ⟨v, h1, h2⟩ := da_get (i := i) t (by simpa using e)
    exact ⟨v, by simpa using h1, h2⟩
theorem da_getV {K : PySem.W.Frag} {H : Hp} : ∀ {vs : List V} {ds : List PD} {i : Nat} {v : V}, DpAll K H vs ds → vs[i]? = some v → ∃ d, ds[i]? = some d ∧ Dp K H v d
  | _, _, _, _, .nil, e => by simp at e
  | _, _, 0, _, .cons r _, e => ⟨_, rfl, Option.some.inj e ▸ r⟩
  | _, _, i + 1, _, .cons _ t, e => by
    obtain ⟨v, h1, h2⟩ := da_getV (i := i) t (by simpa using e)
    exact ⟨v, by simpa using h1, h2⟩
theorem da_app {K : PySem.W.Frag} {H : Hp} : ∀ {vs ws : List V} {ds es : List PD}, DpAll K H vs ds → DpAll K H ws es → DpAll K H (vs ++ ws) (ds ++ es)
  | _, _, _, _, .nil, s => s
  | _, _, _, _, .cons r t, s => .cons r (da_app t s)
theorem da_set {K : PySem.W.Frag} {H : Hp} {v : V} {d : PD} (r : Dp K H v d) : ∀ {vs : List V} {ds : List PD} (i : Nat), DpAll K H vs ds → DpAll K H (vs.set i v) (ds.set i d)
  | _, _, _, .nil => .nil
  | _, _, 0, .cons _ t => .cons r t
  | _, _, i + 1, .cons q t => .cons q (da_set r i t)
theorem da_take {K : PySem.W.Frag} {H : Hp} : ∀ {vs : List V} {ds : List PD} (n : Nat), DpAll K H vs ds → DpAll K H (vs.take n) (ds.take n)
  | _, _, 0, _ => .nil
  | _, _, _ + 1, .nil => .nil
  | _, _, n + 1, .cons r t => .cons r (da_take n t)
theorem da_drop {K : PySem.W.Frag} {H : Hp} : ∀ {vs : List V} {ds : List PD} (n : Nat), DpAll K H vs ds → DpAll K H (vs.drop n) (ds.drop n)
  | _, _, 0, r => r
  | _, _, _ + 1, .nil => .nil
  | _, _, n + 1, .cons _ t => da_drop n t
theorem da_rev {K : PySem.W.Frag} {H : Hp} : ∀ {vs : List V} {ds : List PD}, DpAll K H vs ds → DpAll K H vs.reverse ds.reverse
  | _, _, .nil => .nil
  | _, _, .cons r t => by
    rw [List.reverse_cons,
          List.reverse_cons]
    exact da_app (da_rev t) (.cons r .nil)
theorem da_erase {K : PySem.W.Frag} {H : Hp} : ∀ {vs : List V} {ds : List PD} (i : Nat), DpAll K H vs ds → DpAll K H (vs.eraseIdx i) (ds.eraseIdx i)
  | _, _, _, .nil => .nil
  | _, _, 0, .cons _ t => t
  | _, _, i + 1, .cons q t => .cons q (da_erase i t)
/-- the value of a datum that lies in no heap -/
def scV : PD → Option V
  | .none => some .non
  | .bool b => some (.bl b)
  | .int i => some (.int i)
  | .str x => some (.str x)
  | _ => none
theorem dp_sc {K : PySem.W.Frag} {H H' : Hp} {v : V} {d : PD} (h : Dp K H v d) (s : (scV d).isSome = true) : Dp K H' v d := by
  cases h with
  | non => exact .non
  | bl b => exact .bl b
  | int i => exact .int i
  | str x => exact .str x
  | lst _ _ => cases s
  | tup _ _ => cases s
theorem da_sc {K : PySem.W.Frag} {H H' : Hp} : ∀ {vs : List V} {ds : List PD}, DpAll K H vs ds → (∀ d ∈ ds, (scV d).isSome = true) → DpAll K H' vs ds
  | _, _, .nil, _ => .nil
  | _, _, .cons r t, s => .cons (dp_sc r (s _ List.mem_cons_self)) (da_sc t fun d h => s d (List.mem_cons_of_mem _ h))
theorem dp_int {K : PySem.W.Frag} {H : Hp} {v : V} {i : Int} (h : Dp K H v (.int i)) : v = .int i := by cases h; rfl
theorem dp_bool {K : PySem.W.Frag} {H : Hp} {v : V} {i : Bool} (h : Dp K H v (.bool i)) : v = .bl i := by cases h; rfl
theorem dp_none {K : PySem.W.Frag} {H : Hp} {v : V} (h : Dp K H v .none) : v = .non := by cases h; rfl
theorem dp_list {K : PySem.W.Frag} {H : Hp} {v : V} {ds : List PD} (h : Dp K H v (.list ds)) : ∃ a xs, v = .ref a ∧ SqL K H a xs ∧ DpAll K H xs ds := by
  cases h with
  | lst h1 h2 => exact ⟨_, _, rfl, h1, h2⟩
theorem dp_tuple {K : PySem.W.Frag} {H : Hp} {v : V} {ds : List PD} (h : Dp K H v (.tuple ds)) : ∃ a xs, v = .ref a ∧ SqT K H a xs ∧ DpAll K H xs ds := by
  cases h with
  | tup h1 h2 => exact ⟨_, _, rfl, h1, h2⟩

theorem ok_seto {w : World} {p : Addr} {S : Int → Bool} {n : Nat} : OkO (SetO w p S n) := ⟨fun _ z => (by cases z), fun _ _ z => (by cases z)⟩
/-- from (F, H) to (F2, H2): F what never changes any more, H the whole; the addresses of m may change -/
structure Stp (m : Addr → Prop) (F H F2 H2 : Hp) : Prop where
  ff : Same F F2
  fh : Same F2 H2
  hh : ∀ a o, ¬ m a → H a = some o → H2 a = some o
  nj : ∀ a, F a = none → H a ≠ none → F2 a = none
  hn : ∀ a, H a ≠ none → H2 a ≠ none
  nd : NoD H → NoD H2
abbrev m0 : Addr → Prop := fun _ => False
theorem Stp.refl {m : Addr → Prop} {F H : Hp} (h : Same F H) : Stp m F H F H := ⟨Same.refl F, h, fun _ _ _ e => e, fun _ e _ => e, fun _ e => e, id⟩
theorem Stp.trans {m : Addr → Prop} {F H F1 H1 F2 H2 : Hp} (a : Stp m F H F1 H1) (b : Stp m F1 H1 F2 H2) : Stp m F H F2 H2 :=
  ⟨a.ff.trans b.ff, b.fh, fun c o n e => b.hh c o n (a.hh c o n e), fun c e n => b.nj c (a.nj c e n) (a.hn c n), fun c n => b.hn c (a.hn c n), fun n => b.nd (a.nd n)⟩
theorem Stp.hs {F H F2 H2 : Hp} (a : Stp m0 F H F2 H2) : Same H H2 := fun c o e => a.hh c o (fun z => z) e
theorem Stp.wk {m : Addr → Prop} {F H F2 H2 : Hp} (a : Stp m0 F H F2 H2) : Stp m F H F2 H2 := ⟨a.ff, a.fh, fun c o _ e => a.hs c o e, a.nj, a.hn, a.nd⟩
theorem same_new {H : Hp} {p : Addr} {o : HO} (h : H p = none) : Same H (upd H p o) := fun b x e => by
  rw [upd_ne (ne_of_none e h)]
  exact e
theorem up_some {H : Hp} {p a : Addr} {o : HO} (h : H a ≠ none) : upd H p o a ≠ none := by
  by_cases e : a = p
  · subst e; rw [upd_same]; exact fun z => nomatch z
  · rw [upd_ne e]; exact h
/-- a new object, kept for ever -/
theorem Stp.frz {m : Addr → Prop} {F H : Hp} {p : Addr} {o : HO} (h : Same F H) (hp : H p = none) (k : OkO o) : Stp m F H (upd F p o) (upd H p o) := by
  have fp : F p = none := h.free hp
  refine ⟨same_new fp, fun b x e => ?_, fun a u _ e => same_new hp a u e, fun a e n => ?_, fun a n => up_some n, fun n => n.put k⟩
  · by_cases q : b = p
    · subst q; rw [upd_same] at e ⊢; exact e
    · rw [upd_ne q] at e ⊢; exact h b x e
  · rw [upd_ne (fun z => n (by rw [z]; exact hp))]
    exact e
/-- a new object that may still change -/
theorem Stp.mk1 {m : Addr → Prop} {F H : Hp} {p : Addr} {o : HO} (h : Same F H) (hp : H p = none) (k : OkO o := by first | exact ok_lst | exact ok_seto) : Stp m F H F (upd H p o) :=
  ⟨Same.refl F, h.trans (same_new hp), fun a u _ e => same_new hp a u e, fun _ e _ => e, fun a n => up_some n, fun n => n.put k⟩
theorem Stp.same {m : Addr → Prop} {F H H2 : Hp} (h : Same F H) (k : Same H H2) (n : NoD H → NoD H2) : Stp m F H F H2 := ⟨Same.refl F, h.trans k, fun a u _ e => k a u e, fun _ e _ => e, fun a n z => n (k.free z), n⟩

/-! ## slots told by data -/
inductive Slot where
  | emp
  | d (x : PD)
  | own (b : Bool) (xs : List PD)
  | gen (b : Bool) (n : Int)
  | set (S : Int → Bool) (n : Nat)
  | ob (f : Addr → HO)
def Slot.mt : Slot → Bool
  | .emp => false
  | .d _ => false
  | _ => true
/-- made since the start -/
def Slot.lc : Slot → Bool
  | .own b _ => b
  | .set _ _ => true
  | .ob _ => true
  | .gen b _ => b
  | _ => false
/-- a drawing list -/
def GenAt (H : Hp) (p : Addr) (n : Int) : Prop := ∃ a s c : Int, H p = some (.lst [.int a, .int s, .int c]) ∧ 0 ≤ a ∧ a < 10 ^ 600 ∧ 0 ≤ s ∧ s < 2147483647 ∧ 0 ≤ c ∧ c ≤ n
def SlotOk (K : PySem.W.Frag) (w : World) (F H : Hp) (o : Option V) : Slot → Prop
  | .emp => True
  | .d x => ∃ v, o = some v ∧ Dp K F v x
  | .own _ xs => ∃ p vs, o = some (.ref p) ∧ F p = none ∧ H p = some (.lst vs) ∧ DpAll K F vs xs
  | .gen _ n => ∃ p, o = some (.ref p) ∧ F p = none ∧ GenAt H p n
  | .set S n => ∃ p, o = some (.ref p) ∧ F p = none ∧ H p = some (SetO w p S n)
  | .ob f => ∃ p, o = some (.ref p) ∧ F p = none ∧ H p = some (f p)
structure Sig (K : PySem.W.Frag) (w : World) (F0 H0 : Hp) (m : Addr → Prop) (F H : Hp) (σ : St) (δ : List Slot) : Prop where
  st : Stp m F0 H0 F H
  len : σ.length = δ.length
  ok : ∀ (i : Nat) (s : Slot), δ[i]? = some s → SlotOk K w F H ((σ[i]?).join) s
  dis : ∀ (i j : Nat) (si sj : Slot) (v : V), i ≠ j → δ[i]? = some si → δ[j]? = some sj → si.mt = true → sj.mt = true → σ[i]? = some (some v) → σ[j]? ≠ some (some v)
  fr : ∀ (i : Nat) (s : Slot) (p : Addr), δ[i]? = some s → s.mt = true → σ[i]? = some (some (.ref p)) → (s.lc = true → H0 p = none) ∧ (s.lc = false → m p)
  n0 : NoD H0
structure Fz (F H : Hp) : Prop where
  s : Same F H
  n : NoD H
section
variable {K : PySem.W.Frag} {w : World} {F0 H0 F H F2 H2 : Hp} {m : Addr → Prop} {σ : St} {δ : List Slot}
theorem Sig.fh (S : Sig K w F0 H0 m F H σ δ) : Same F H := S.st.fh
theorem Sig.fz (S : Sig K w F0 H0 m F H σ δ) : Fz F H := ⟨S.st.fh, S.st.nd S.n0⟩
theorem slot_up {o : Option V} {s : Slot} (h : SlotOk K w F H o s) (e : Stp m0 F H F2 H2) : SlotOk K w F2 H2 o s := by
  cases s with
  | emp => exact h
  | d x =>
    obtain ⟨v, h1, h2⟩ := h
    exact ⟨v, h1, dp_up e.ff _ _ h2⟩
  | own b xs =>
    obtain ⟨p, vs, h1, h2, h3, h4⟩ := h
    exact ⟨p, vs, h1, e.nj p h2 (by rw [h3]; exact fun z => nomatch z), e.hs _ _ h3, da_up e.ff _ _ h4⟩
  | gen b' n =>
    obtain ⟨p, h1, h2, a, s, c, h3, h4⟩ := h
    exact ⟨p, h1, e.nj p h2 (by rw [h3]; exact fun z => nomatch z), a, s, c, e.hs _ _ h3, h4⟩
  | set S n =>
    obtain ⟨p, h1, h2, h3⟩ := h
    exact ⟨p, h1, e.nj p h2 (by rw [h3]; exact fun z => nomatch z), e.hs _ _ h3⟩
  | ob o9 =>
    obtain ⟨p, h1, h2, h3⟩ := h
    exact ⟨p, h1, e.nj p h2 (by rw [h3]; exact fun z => nomatch z), e.hs _ _ h3⟩
theorem Sig.up (S : Sig K w F0 H0 m F H σ δ) (e : Stp m0 F H F2 H2) : Sig K w F0 H0 m F2 H2 σ δ :=
  ⟨S.st.trans e.wk, S.len, fun i s h => slot_up (S.ok i s h) e, S.dis, S.fr, S.n0⟩
theorem Sig.var (S : Sig K w F0 H0 m F H σ δ) {i : Nat} {x : PD} (h : δ[i]? = some (.d x)) : ∃ v, σ[i]? = some (some v) ∧ Dp K F v x := by
  obtain ⟨v, h1, h2⟩ := S.ok i _ h
  refine ⟨v, ?_, h2⟩
  cases e : σ[i]? with
  | none => rw [e] at h1; cases h1
  | some o => rw [e] at h1; exact congrArg some h1
theorem Sig.ref (S : Sig K w F0 H0 m F H σ δ) {i : Nat} {s : Slot} (h : δ[i]? = some s) (hm : s.mt = true) : ∃ p, σ[i]? = some (some (.ref p)) ∧ F p = none := by
  have q := S.ok i s h
  have r : ∃ p, (σ[i]?).join = some (.ref p) ∧ F p = none := by
    cases s with
    | emp => cases hm
    | d x => cases hm
    | own b xs => obtain ⟨p, vs, h1, h2, _⟩ := q; exact ⟨p, h1, h2⟩
    | gen b' n => obtain ⟨p, h1, h2, _⟩ := q; exact ⟨p, h1, h2⟩
    | set S n => obtain ⟨p, h1, h2, _⟩ := q; exact ⟨p, h1, h2⟩
    | ob o9 => obtain ⟨p, h1, h2, _⟩ := q; exact ⟨p, h1, h2⟩
  obtain ⟨p, h1, h2⟩ := r
  refine ⟨p, ?_, h2⟩
  cases e : σ[i]? with
  | none => rw [e] at h1; cases h1
  | some o => rw [e] at h1; exact congrArg some h1
theorem Sig.setD (S : Sig K w F0 H0 m F H σ δ) (i : Nat) {v : V} {x : PD} (h : Dp K F v x) : Sig K w F0 H0 m F H (σ.set i (some v)) (δ.set i (.d x)) := by
  refine ⟨S.st, by rw [List.length_set, List.length_set, S.len], fun j s e => ?_, fun j k si sj u jk ej ek mj mk => ?_, fun j s p e ms => ?_, S.n0⟩
  · by_cases z : i = j
    · subst z
      by_cases q : i < δ.length
      · rw [List.getElem?_set_self q] at e
        rw [List.getElem?_set_self (by rw [S.len]; exact q)]
        cases e
        exact ⟨v, rfl, h⟩
      · rw [List.getElem?_eq_none (by rw [List.length_set]; omega)] at e
        cases e
    · rw [List.getElem?_set_ne z] at e
      rw [List.getElem?_set_ne z]
      exact S.ok j s e
  · have nj : i ≠ j := fun z => by
      subst z
      by_cases q : i < δ.length
      · rw [List.getElem?_set_self q] at ej; cases ej; cases mj
      · rw [List.getElem?_eq_none (by rw [List.length_set]; omega)] at ej; cases ej
    have nk : i ≠ k := fun z => by
      subst z
      by_cases q : i < δ.length
      · rw [List.getElem?_set_self q] at ek; cases ek; cases mk
      · rw [List.getElem?_eq_none (by rw [List.length_set]; omega)] at ek; cases ek
    rw [List.getElem?_set_ne nj] at ej
    rw [List.getElem?_set_ne nk] at ek
    rw [List.getElem?_set_ne nj, List.getElem?_set_ne nk]
    exact S.dis j k si sj u jk ej ek mj mk
  · have nj : i ≠ j := fun z => by
      subst z
      by_cases q : i < δ.length
      · rw [List.getElem?_set_self q] at e; cases e; cases ms
      · rw [List.getElem?_eq_none (by rw [List.length_set]; omega)] at e; cases e
    rw [List.getElem?_set_ne nj] at e
    rw [List.getElem?_set_ne nj]
    exact S.fr j s p e ms
/-- a slot that is forgotten -/
theorem Sig.drop (S : Sig K w F0 H0 m F H σ δ) (i : Nat) (o : Option V) : Sig K w F0 H0 m F H (σ.set i o) (δ.set i .emp) := by
  refine ⟨S.st, by rw [List.length_set, List.length_set, S.len], fun j s e => ?_, fun j k si sj u jk ej ek mj mk => ?_, fun j s p e ms => ?_, S.n0⟩
  · by_cases z : i = j
    · subst z
      by_cases q : i < δ.length
      · rw [List.getElem?_set_self q] at e
        cases e
        exact trivial
      · rw [List.getElem?_eq_none (by rw [List.length_set]; omega)] at e
        cases e
    · rw [List.getElem?_set_ne z] at e
      rw [List.getElem?_set_ne z]
      exact S.ok j s e
  · have nj : i ≠ j := fun z => by
      subst z
      by_cases q : i < δ.length
      · rw [List.getElem?_set_self q] at ej; cases ej; cases mj
      · rw [List.getElem?_eq_none (by rw [List.length_set]; omega)] at ej; cases ej
    have nk : i ≠ k := fun z => by
      subst z
      by_cases q : i < δ.length
      · rw [List.getElem?_set_self q] at ek; cases ek; cases mk
      · rw [List.getElem?_eq_none (by rw [List.length_set]; omega)] at ek; cases ek
    rw [List.getElem?_set_ne nj] at ej
    rw [List.getElem?_set_ne nk] at ek
    rw [List.getElem?_set_ne nj, List.getElem?_set_ne nk]
    exact S.dis j k si sj u jk ej ek mj mk
  · have nj : i ≠ j := fun z => by
      subst z
      by_cases q : i < δ.length
      · rw [List.getElem?_set_self q] at e; cases e; cases ms
      · rw [List.getElem?_eq_none (by rw [List.length_set]; omega)] at e; cases e
    rw [List.getElem?_set_ne nj] at e
    rw [List.getElem?_set_ne nj]
    exact S.fr j s p e ms
/-- a slot that gets a changeable object of its own, new since the start and in no other slot -/
theorem Sig.setM (S : Sig K w F0 H0 m F H σ δ) (i : Nat) {p : Addr} {s : Slot} (h : SlotOk K w F H (some (.ref p)) s) (hm : s.mt = true) (h0 : (s.lc = true → H0 p = none) ∧ (s.lc = false → m p))
    (hx : ∀ (j : Nat) (sj : Slot), i ≠ j → δ[j]? = some sj → sj.mt = true → σ[j]? ≠ some (some (.ref p))) : Sig K w F0 H0 m F H (σ.set i (some (.ref p))) (δ.set i s) := by
  have self : ∀ (j : Nat) (sj : Slot), i = j → (δ.set i s)[j]? = some sj → i < δ.length ∧ sj = s ∧ (σ.set i (some (.ref p)))[j]? = some (some (.ref p)) := fun j sj z e => by
    subst z
    by_cases q : i < δ.length
    · rw [List.getElem?_set_self q] at e
      cases e
      exact ⟨q, rfl, List.getElem?_set_self (by rw [S.len]; exact q)⟩
    · rw [List.getElem?_eq_none (by rw [List.length_set]; omega)] at e
      cases e
  refine ⟨S.st, by rw [List.length_set, List.length_set, S.len], fun j sj e => ?_, fun j k si sj u jk ej ek mj mk eu => ?_, fun j sj q e ms eq => ?_, S.n0⟩
  · by_cases z : i = j
    · obtain ⟨_, rfl, r⟩ := self j sj z e
      rw [r]
      exact h
    · rw [List.getElem?_set_ne z] at e ⊢
      exact S.ok j sj e
  · by_cases z : i = j
    · obtain ⟨_, rfl, r⟩ := self j si z ej
      rw [r] at eu
      cases eu
      have zk : i ≠ k := fun q => jk (z.symm.trans q)
      rw [List.getElem?_set_ne zk] at ek ⊢
      exact hx k sj zk ek mk
    · rw [List.getElem?_set_ne z] at ej eu
      by_cases zk : i = k
      · obtain ⟨_, rfl, r⟩ := self k sj zk ek
        rw [r]
        intro q
        cases q
        exact hx j si z ej mj eu
      · rw [List.getElem?_set_ne zk] at ek ⊢
        exact S.dis j k si sj u jk ej ek mj mk eu
  · by_cases z : i = j
    · obtain ⟨_, rfl, r⟩ := self j sj z e
      rw [r] at eq
      cases eq
      exact h0
    · rw [List.getElem?_set_ne z] at e eq
      exact S.fr j sj q e ms eq
/-- the object of a changeable slot changes -/
theorem Sig.chg (S : Sig K w F0 H0 m F H σ δ) {i : Nat} {p : Addr} {s s' : Slot} {o : HO} (hi : δ[i]? = some s) (hm : s.mt = true) (hp : σ[i]? = some (some (.ref p))) (hF : F p = none) (hH : H p ≠ none)
    (h : SlotOk K w F (upd H p o) (some (.ref p)) s') (hm' : s'.mt = true) (hl : s'.lc = s.lc) (ko : OkO o := by first | exact ok_lst | exact ok_seto) : Sig K w F0 H0 m F (upd H p o) σ (δ.set i s') := by
  have hlt : i < δ.length := (List.getElem?_eq_some_iff.mp hi).1
  have fr : m p ∨ H0 p = none := by
    cases q : s.lc with
    | true => exact .inr ((S.fr i s p hi hm hp).1 q)
    | false => exact .inl ((S.fr i s p hi hm hp).2 q)
  refine ⟨⟨S.st.ff, fun b x e => ?_, fun a u na e => ?_, S.st.nj, fun a n => up_some (S.st.hn a n), fun n => (S.st.nd n).put ko⟩, by rw [List.length_set, S.len], fun j sj e => ?_, fun j k si sj u jk ej ek mj mk eu => ?_, fun j sj q e ms eq => ?_, S.n0⟩
  · rw [upd_ne (ne_of_none e hF)]
    exact S.fh b x e
  · have nap : a ≠ p := fun z => by
      subst z
      rcases fr with f | f
      · exact na f
      · rw [f] at e; cases e
    rw [upd_ne nap]
    exact S.st.hh a u na e
  · by_cases z : i = j
    · subst z
      rw [List.getElem?_set_self hlt] at e
      cases e
      rw [hp]
      exact h
    · rw [List.getElem?_set_ne z] at e
      have q := S.ok j sj e
      cases sj with
      | emp => exact trivial
      | d x => exact q
      | own b xs =>
        obtain ⟨p', vs, h1, h2, h3, h4⟩ := q
        have ne : p' ≠ p := fun y => by
          subst y
          refine S.dis i j s _ _ z hi e hm rfl hp ?_
          cases e1 : σ[j]? with
          | none => rw [e1] at h1; cases h1
          | some o => rw [e1] at h1; exact congrArg some h1
        exact ⟨p', vs, h1, h2, by rw [upd_ne ne]; exact h3, h4⟩
      | gen b' n =>
        obtain ⟨p', h1, h2, a, b, c, h3, h4⟩ := q
        have ne : p' ≠ p := fun y => by
          subst y
          refine S.dis i j s _ _ z hi e hm rfl hp ?_
          cases e1 : σ[j]? with
          | none => rw [e1] at h1; cases h1
          | some o => rw [e1] at h1; exact congrArg some h1
        exact ⟨p', h1, h2, a, b, c, by rw [upd_ne ne]; exact h3, h4⟩
      | set S' n =>
        obtain ⟨p', h1, h2, h3⟩ := q
        have ne : p' ≠ p := fun y => by
          subst y
          refine S.dis i j s _ _ z hi e hm rfl hp ?_
          cases e1 : σ[j]? with
          | none => rw [e1] at h1; cases h1
          | some o => rw [e1] at h1; exact congrArg some h1
        exact ⟨p', h1, h2, by rw [upd_ne ne]; exact h3⟩
      | ob o9 =>
        obtain ⟨p', h1, h2, h3⟩ := q
        have ne : p' ≠ p := fun y => by
          subst y
          refine S.dis i j s _ _ z hi e hm rfl hp ?_
          cases e1 : σ[j]? with
          | none => rw [e1] at h1; cases h1
          | some o => rw [e1] at h1; exact congrArg some h1
        exact ⟨p', h1, h2, by rw [upd_ne ne]; exact h3⟩
  · have mtx : ∀ (l : Nat) (sl : Slot), (δ.set i s')[l]? = some sl → sl.mt = true → ∃ s2, δ[l]? = some s2 ∧ s2.mt = true := fun l sl e1 e2 => by
      by_cases z : i = l
      · subst z; exact ⟨s, hi, hm⟩
      · rw [List.getElem?_set_ne z] at e1; exact ⟨sl, e1, e2⟩
    obtain ⟨s1, a1, b1⟩ := mtx j si ej mj
    obtain ⟨s2, a2, b2⟩ := mtx k sj ek mk
    exact S.dis j k s1 s2 u jk a1 a2 b1 b2 eu
  · by_cases z : i = j
    · subst z
      rw [List.getElem?_set_self hlt] at e
      cases e
      exact ⟨fun y => (S.fr i s q hi hm eq).1 (hl.symm.trans y), fun y => (S.fr i s q hi hm eq).2 (hl.symm.trans y)⟩
    · rw [List.getElem?_set_ne z] at e
      exact S.fr j sj q e ms eq
/-- wiped slots -/
def wipeD (δ : List Slot) : List Nat → List Slot
  | [] => δ
  | v :: vs => (wipeD δ vs).set v .emp
theorem Sig.wipe (S : Sig K w F0 H0 m F H σ δ) : ∀ vs : List Nat, Sig K w F0 H0 m F H (L2.wipe σ vs) (wipeD δ vs)
  | [] => S
  | v :: vs => (S.wipe vs).drop v none
end
end MU

namespace MU
open PySem PySem.Spec L2
/-! ## what an expression is worth, by data -/
section
variable (K : PySem.W.Frag) (w : World)
/-- a value that may be kept -/
def EvD (te : TE) (δ : List Slot) (d : PD) : Prop := ∀ F0 H0 m F H σ, Sig K w F0 H0 m F H σ δ → ∀ Q : VK, (∀ v F2 H2, Stp m0 F H F2 H2 → Dp K F2 v d → Q v H2) → te σ H Q
/-- a value that may be read -/
def RdD (te : TE) (δ : List Slot) (d : PD) : Prop := ∀ F0 H0 m F H σ, Sig K w F0 H0 m F H σ δ → ∀ Q : VK, (∀ v F2 H2, Stp m0 F H F2 H2 → Dp K H2 v d → Q v H2) → te σ H Q
/-- a new list -/
def EvO (te : TE) (δ : List Slot) (ds : List PD) : Prop := ∀ F0 H0 m F H σ, Sig K w F0 H0 m F H σ δ → ∀ Q : VK,
  (∀ p vs F2 H2, Stp m0 F H F2 H2 → F2 p = none → H p = none → H2 p = some (.lst vs) → DpAll K F2 vs ds → Q (.ref p) H2) → te σ H Q
def TsB (tt : TT) (δ : List Slot) (b : Bool) : Prop := ∀ F0 H0 m F H σ, Sig K w F0 H0 m F H σ δ → ∀ Q : Bool → Hp → Prop, (∀ F2 H2, Stp m0 F H F2 H2 → Q b H2) → tt σ H Q
def EvA (ta : TA) (δ : List Slot) (ds : List PD) : Prop := ∀ F0 H0 m F H σ, Sig K w F0 H0 m F H σ δ → ∀ Q : List V → Hp → Prop, (∀ vs F2 H2, Stp m0 F H F2 H2 → DpAll K F2 vs ds → Q vs H2) → ta σ H Q
def RdA (ta : TA) (δ : List Slot) (ds : List PD) : Prop := ∀ F0 H0 m F H σ, Sig K w F0 H0 m F H σ δ → ∀ Q : List V → Hp → Prop, (∀ vs F2 H2, Stp m0 F H F2 H2 → DpAll K H2 vs ds → Q vs H2) → ta σ H Q
end
section
variable {K : PySem.W.Frag} {w : World} {δ : List Slot} {te ta tb : TE} {t u : TT} {d x y : PD} {ds es : List PD} {r : R2}
theorem EvD.rd (h : EvD K w te δ d) : RdD K w te δ d := fun _ _ _ _ _ _ S Q q => h _ _ _ _ _ _ S Q fun v F2 H2 s e => q v F2 H2 s (dp_up s.fh _ _ e)
theorem EvO.ev (h : EvO K w te δ ds) : EvD K w te δ (.list ds) := fun _ _ _ F H _ S Q q => h _ _ _ _ _ _ S Q fun p vs F2 H2 s f n e a =>
  q (.ref p) (upd F2 p (.lst vs)) H2 ⟨s.ff.trans (same_new f), fun b o eb => by
      by_cases z : b = p
      · subst z; rw [upd_same] at eb; cases eb; exact e
      · rw [upd_ne z] at eb; exact s.fh b o eb,
    s.hh, fun b eb nb => by
      rw [upd_ne (fun z => nb (by rw [z]; exact n))]
      exact s.nj b eb nb, s.hn, s.nd⟩ (.lst (.inl (.inl upd_same)) (da_up (same_new f) _ _ a))
theorem EvO.rd (h : EvO K w te δ ds) : RdD K w te δ (.list ds) := h.ev.rd
theorem RdD.sc (h : RdD K w te δ d) (s : (scV d).isSome = true := by rfl) : EvD K w te δ d := fun _ _ _ F H _ S Q q => h _ _ _ _ _ _ S Q fun v F2 H2 st e => q v F2 H2 st (dp_sc e s)
theorem EvD.is (h : EvD K w te δ x) (e : x = y) : EvD K w te δ y := e ▸ h
theorem RdD.is (h : RdD K w te δ x) (e : x = y) : RdD K w te δ y := e ▸ h
theorem EvO.is (h : EvO K w te δ ds) (e : ds = es) : EvO K w te δ es := e ▸ h
theorem TsB.is {a b : Bool} (h : TsB K w t δ a) (e : a = b) : TsB K w t δ b := e ▸ h
theorem EvA.rd {tz : TA} (h : EvA K w tz δ ds) : RdA K w tz δ ds := fun _ _ _ _ _ _ S Q q => h _ _ _ _ _ _ S Q fun v F2 H2 s e => q v F2 H2 s (da_up s.fh _ _ e)
/-! names, constants -/
theorem ev_var {i : Nat} (h : δ[i]? = some (.d d)) : EvD K w (tVar i) δ d := fun _ _ _ F H σ S Q q => by
  obtain ⟨v, e, r⟩ := S.var h
  exact ⟨v, e, q v F H (.refl S.fh) r⟩
/-- the name of a list that may change: read -/
theorem rd_own {i : Nat} {b : Bool} (h : δ[i]? = some (.own b ds)) : RdD K w (tVar i) δ (.list ds) := fun _ _ _ F H σ S Q q => by
  obtain ⟨p, e, f⟩ := S.ref h rfl
  obtain ⟨p', vs, h1, h2, h3, h4⟩ := S.ok i _ h
  rw [e] at h1
  have z : p = p' := V.ref.inj (Option.some.inj h1)
  subst z
  exact ⟨_, e, q _ F H (.refl S.fh) (.lst (.inl (.inl h3)) (da_up S.fh _ _ h4))⟩
theorem ev_int {i : Int} : EvD K w (tC (.int i)) δ (.int i) := fun _ _ _ F H _ S Q q => q _ F H (.refl S.fh) (.int i)
theorem ev_bl {b : Bool} : EvD K w (tC (.bl b)) δ (.bool b) := fun _ _ _ F H _ S Q q => q _ F H (.refl S.fh) (.bl b)
theorem ev_non : EvD K w (tC .non) δ .none := fun _ _ _ F H _ S Q q => q _ F H (.refl S.fh) .non
theorem ev_str {z : Str} : EvD K w (tC (.str z)) δ (.str z) := fun _ _ _ F H _ S Q q => q _ F H (.refl S.fh) (.str z)
/-! operators: the answer lies in no heap -/
theorem rd_op2 {z : V} {e : PD} (ha : RdD K w ta δ x) (hb : RdD K w tb δ y) (hz : ∀ H : Hp, Dp K H z e) (hr : ∀ (H : Hp) (v u : V), Dp K H v x → Dp K H u y → ∀ Q : VK, Q z H → r v u H Q) : EvD K w (tOp r ta tb) δ e := fun _ _ _ F H σ S Q q =>
  ha _ _ _ _ _ _ S _ fun v F2 H2 s1 e1 => hb _ _ _ _ _ _ (S.up s1) _ fun u F3 H3 s2 e2 => hr H3 v u (dp_up s2.hs _ _ e1) e2 Q (q z F3 H3 (s1.trans s2) (hz F3))
theorem ev_int2 {g : Int → Int → V} {i j : Int} {e : PD} (ha : RdD K w ta δ (.int i)) (hb : RdD K w tb δ (.int j)) (hz : ∀ H : Hp, Dp K H (g i j) e) : EvD K w (tOp (rI0 g) ta tb) δ e :=
  rd_op2 ha hb hz fun H v u h1 h2 Q q => ⟨i, j, dp_int h1, dp_int h2, q⟩
theorem ev_int2C {C : Int → Int → Prop} {g : Int → Int → V} {i j : Int} {e : PD} (ha : RdD K w ta δ (.int i)) (hb : RdD K w tb δ (.int j)) (hc : C i j) (hz : ∀ H : Hp, Dp K H (g i j) e) : EvD K w (tOp (rI C g) ta tb) δ e :=
  rd_op2 ha hb hz fun H v u h1 h2 Q q => ⟨i, j, dp_int h1, dp_int h2, hc, q⟩
abbrev rAddI : R2 := rI0 fun i j => .int (i + j)
abbrev rSubI : R2 := rI0 fun i j => .int (i - j)
theorem ev_add {i j : Int} (ha : RdD K w ta δ (.int i)) (hb : RdD K w tb δ (.int j)) : EvD K w (tOp rAddI ta tb) δ (.int (i + j)) := ev_int2 ha hb fun H => .int _
theorem ev_sub {i j : Int} (ha : RdD K w ta δ (.int i)) (hb : RdD K w tb δ (.int j)) : EvD K w (tOp rSubI ta tb) δ (.int (i - j)) := ev_int2 ha hb fun H => .int _
theorem ev_mul {i j : Int} (ha : RdD K w ta δ (.int i)) (hb : RdD K w tb δ (.int j)) (hc : CMulX i j) : EvD K w (tOp (rI CMulX fun i j => .int (i * j)) ta tb) δ (.int (i * j)) := ev_int2C ha hb hc fun H => .int _
theorem ev_mod {i j : Int} (ha : RdD K w ta δ (.int i)) (hb : RdD K w tb δ (.int j)) (hc : 0 < j) : EvD K w (tOp (rI (fun _ j => 0 < j) fun i j => .int (i % j)) ta tb) δ (.int (i % j)) := ev_int2C ha hb hc fun H => .int _
theorem ev_div {i j : Int} (ha : RdD K w ta δ (.int i)) (hb : RdD K w tb δ (.int j)) (hc : CDivW i j) : EvD K w (tOp (rI CDivW fun i j => .int (i / j)) ta tb) δ (.int (i / j)) := ev_int2C ha hb hc fun H => .int _
theorem ev_pow {i j : Int} (ha : RdD K w ta δ (.int i)) (hb : RdD K w tb δ (.int j)) (hc : CPow i j) : EvD K w (tOp (rI CPow fun i j => .int (i ^ j.toNat)) ta tb) δ (.int (i ^ j.toNat)) := ev_int2C ha hb hc fun H => .int _
theorem ev_neg {i : Int} (ha : RdD K w ta δ (.int i)) : EvD K w (tUn (rU fun i => .int (-i)) ta) δ (.int (-i)) := fun _ _ _ F H σ S Q q =>
  ha _ _ _ _ _ _ S _ fun v F2 H2 s1 e1 => ⟨i, dp_int e1, q _ F2 H2 s1 (.int _)⟩
theorem ev_lt {i j : Int} (ha : RdD K w ta δ (.int i)) (hb : RdD K w tb δ (.int j)) : EvD K w (tOp (rI0 fun i j => .bl (decide (i < j))) ta tb) δ (.bool (decide (i < j))) := ev_int2 ha hb fun H => .bl _
theorem ev_le {i j : Int} (ha : RdD K w ta δ (.int i)) (hb : RdD K w tb δ (.int j)) : EvD K w (tOp (rI0 fun i j => .bl (decide (i ≤ j))) ta tb) δ (.bool (decide (i ≤ j))) := ev_int2 ha hb fun H => .bl _
theorem ev_gt {i j : Int} (ha : RdD K w ta δ (.int i)) (hb : RdD K w tb δ (.int j)) : EvD K w (tOp (rI0 fun i j => .bl (decide (j < i))) ta tb) δ (.bool (decide (j < i))) := ev_int2 ha hb fun H => .bl _
theorem ev_ge {i j : Int} (ha : RdD K w ta δ (.int i)) (hb : RdD K w tb δ (.int j)) : EvD K w (tOp (rI0 fun i j => .bl (decide (j ≤ i))) ta tb) δ (.bool (decide (j ≤ i))) := ev_int2 ha hb fun H => .bl _
theorem ev_eq (ha : RdD K w ta δ x) (hb : RdD K w tb δ y) (hx : SeqAt.shaped x = true) (hy : SeqAt.shaped y = true) : EvD K w (tOp (rEqD K) ta tb) δ (.bool (PyData.eqv x y)) :=
  rd_op2 ha hb (fun H => .bl _) fun H v u h1 h2 Q q => ⟨x, y, h1, h2, hx, hy, q⟩
theorem ev_ne (ha : RdD K w ta δ x) (hb : RdD K w tb δ y) (hx : SeqAt.shaped x = true) (hy : SeqAt.shaped y = true) : EvD K w (tOp (rNeD K) ta tb) δ (.bool (!PyData.eqv x y)) :=
  rd_op2 ha hb (fun H => .bl _) fun H v u h1 h2 Q q => ⟨x, y, h1, h2, hx, hy, q⟩
abbrev rIsN' : R2 := fun x y H Q => y = .non ∧ Q (.bl (decide (x = .non))) H
abbrev rNotN' : R2 := fun x y H Q => y = .non ∧ Q (.bl (!decide (x = .non))) H
def isNon : PD → Bool
  | .none => true
  | _ => false
theorem isNon_v {H : Hp} {v : V} (h : Dp K H v d) : decide (v = .non) = isNon d := by
  cases h with
  | non => rfl
  | bl b => exact decide_eq_false (fun z => nomatch z)
  | int i => exact decide_eq_false (fun z => nomatch z)
  | str i => exact decide_eq_false (fun z => nomatch z)
  | lst _ _ => exact decide_eq_false (fun z => nomatch z)
  | tup _ _ => exact decide_eq_false (fun z => nomatch z)
theorem ev_isN (ha : RdD K w ta δ x) : EvD K w (tOp rIsN' ta (tC .non)) δ (.bool (isNon x)) := fun _ _ _ F H σ S Q q =>
  ha _ _ _ _ _ _ S _ fun v F2 H2 s1 e1 => ⟨rfl, by rw [isNon_v e1]; exact q _ F2 H2 s1 (.bl _)⟩
theorem ev_notN (ha : RdD K w ta δ x) : EvD K w (tOp rNotN' ta (tC .non)) δ (.bool (!isNon x)) := fun _ _ _ F H σ S Q q =>
  ha _ _ _ _ _ _ S _ fun v F2 H2 s1 e1 => ⟨rfl, by rw [isNon_v e1]; exact q _ F2 H2 s1 (.bl _)⟩
/-- a < b < c -/
theorem ev_chain {g g' : Int → Int → Bool} {tc : TE} {i j k : Int} (ha : RdD K w ta δ (.int i)) (hb : RdD K w tb δ (.int j)) (hc : RdD K w tc δ (.int k)) :
    EvD K w (tChain (rI0 fun i j => .bl (g i j)) (rI0 fun i j => .bl (g' i j)) ta tb tc) δ (.bool (g i j && g' j k)) := fun _ _ _ F H σ S Q q =>
  ha _ _ _ _ _ _ S _ fun v F2 H2 s1 e1 => hb _ _ _ _ _ _ (S.up s1) _ fun u F3 H3 s2 e2 => ⟨i, j, dp_int e1, dp_int e2, g i j, rfl, by
    cases e : g i j with
    | true => exact hc _ _ _ _ _ _ ((S.up s1).up s2) _ fun z F4 H4 s3 e3 => ⟨j, k, dp_int e2, dp_int e3, by
        have q' := q (.bl (g i j && g' j k)) F4 H4 ((s1.trans s2).trans s3) (.bl _)
        rw [e, Bool.true_and] at q'
        exact q'⟩
    | false =>
      have q' := q (.bl (g i j && g' j k)) F3 H3 (s1.trans s2) (.bl _)
      rw [e, Bool.false_and] at q'
      exact q'⟩
/-! tests -/
theorem ts_cmp {b : Bool} (h : EvD K w te δ (.bool b)) : TsB K w (tTest te) δ b := fun _ _ _ F H σ S Q q => h _ _ _ _ _ _ S _ fun v F2 H2 s e => ⟨b, dp_bool e, q F2 H2 s⟩
theorem ts_val {b : Bool} (h : EvD K w te δ (.bool b)) : TsB K w (tB te) δ b := fun _ _ _ F H σ S Q q => h _ _ _ _ _ _ S _ fun v F2 H2 s e => ⟨b, dp_bool e, q F2 H2 s⟩
theorem ts_not {b : Bool} (h : TsB K w t δ b) : TsB K w (tNot t) δ (!b) := fun _ _ _ F H σ S Q q => h _ _ _ _ _ _ S _ fun F2 H2 s => q F2 H2 s
theorem ts_and {a b : Bool} (h : TsB K w t δ a) (h2 : a = true → TsB K w u δ b) : TsB K w (tAnd t u) δ (a && b) := fun _ _ _ F H σ S Q q => h _ _ _ _ _ _ S _ fun F2 H2 s => by
  cases a with
  | true => exact h2 rfl _ _ _ _ _ _ (S.up s) _ fun F3 H3 s2 => q F3 H3 (s.trans s2)
  | false => exact q F2 H2 s
theorem ts_or {a b : Bool} (h : TsB K w t δ a) (h2 : a = false → TsB K w u δ b) : TsB K w (tOr t u) δ (a || b) := fun _ _ _ F H σ S Q q => h _ _ _ _ _ _ S _ fun F2 H2 s => by
  cases a with
  | false => exact h2 rfl _ _ _ _ _ _ (S.up s) _ fun F3 H3 s2 => q F3 H3 (s.trans s2)
  | true => exact q F2 H2 s
theorem ev_andV {a b : Bool} (h : EvD K w ta δ (.bool a)) (h2 : a = true → EvD K w tb δ (.bool b)) : EvD K w (tAndV ta tb) δ (.bool (a && b)) := fun _ _ _ F H σ S Q q => h _ _ _ _ _ _ S _ fun v F2 H2 s e => ⟨a, dp_bool e, by
  cases a with
  | true => exact h2 rfl _ _ _ _ _ _ (S.up s) _ fun v F3 H3 s2 e2 => q v F3 H3 (s.trans s2) e2
  | false => exact q _ F2 H2 s (.bl _)⟩
theorem ev_orV {a b : Bool} (h : EvD K w ta δ (.bool a)) (h2 : a = false → EvD K w tb δ (.bool b)) : EvD K w (tOrV ta tb) δ (.bool (a || b)) := fun _ _ _ F H σ S Q q => h _ _ _ _ _ _ S _ fun v F2 H2 s e => ⟨a, dp_bool e, by
  cases a with
  | false => exact h2 rfl _ _ _ _ _ _ (S.up s) _ fun v F3 H3 s2 e2 => q v F3 H3 (s.trans s2) e2
  | true => exact q _ F2 H2 s (.bl _)⟩
theorem ev_notV {a : Bool} (h : EvD K w ta δ (.bool a)) : EvD K w (tNotV ta) δ (.bool (!a)) := fun _ _ _ F H σ S Q q => h _ _ _ _ _ _ S _ fun v F2 H2 s e => ⟨a, dp_bool e, q _ F2 H2 s (.bl _)⟩
theorem ev_if {b : Bool} (h : TsB K w t δ b) (h1 : b = true → EvD K w ta δ d) (h2 : b = false → EvD K w tb δ d) : EvD K w (tIf t ta tb) δ d := fun _ _ _ F H σ S Q q => h _ _ _ _ _ _ S _ fun F2 H2 s => by
  cases b with
  | true => exact h1 rfl _ _ _ _ _ _ (S.up s) _ fun v F3 H3 s2 e2 => q v F3 H3 (s.trans s2) e2
  | false => exact h2 rfl _ _ _ _ _ _ (S.up s) _ fun v F3 H3 s2 e2 => q v F3 H3 (s.trans s2) e2
/-! arguments -/
theorem ea_nil : EvA K w tNil δ [] := fun _ _ _ F H _ S Q q => q [] F H (.refl S.fh) .nil
theorem ea_cons {tr : TA} (h : EvD K w te δ d) (hr : EvA K w tr δ ds) : EvA K w (tCons te tr) δ (d :: ds) := fun _ _ _ F H _ S Q q =>
  h _ _ _ _ _ _ S _ fun v F2 H2 s e => hr _ _ _ _ _ _ (S.up s) _ fun vs F3 H3 s2 e2 => q (v :: vs) F3 H3 (s.trans s2) (.cons (dp_up s2.ff _ _ e) e2)
theorem ra_nil : RdA K w tNil δ [] := fun _ _ _ F H _ S Q q => q [] F H (.refl S.fh) .nil
theorem ra_cons {tr : TA} (h : RdD K w te δ d) (hr : RdA K w tr δ ds) : RdA K w (tCons te tr) δ (d :: ds) := fun _ _ _ F H _ S Q q =>
  h _ _ _ _ _ _ S _ fun v F2 H2 s e => hr _ _ _ _ _ _ (S.up s) _ fun vs F3 H3 s2 e2 => q (v :: vs) F3 H3 (s.trans s2) (.cons (dp_up s2.hs _ _ e) e2)
/-! displays, items, slices -/
theorem small_line {n : Nat} (h : n ≤ 100000) : n ≤ sizeLine := Nat.le_trans h (by decide)
theorem ev_tup {t : TA} (h : EvA K w t δ ds) (hl : ds.length ≤ 100000) : EvD K w (tTupN t) δ (.tuple ds) := fun _ _ _ F H _ S Q q =>
  h _ _ _ _ _ _ S _ fun vs F2 H2 s e => ⟨by rw [da_len e]; exact small_line hl, fun p hp o ho =>
    q (.ref p) (upd F2 p (.frz o (.tup vs))) _ (s.trans (.frz s.fh hp (ok_tup ho))) (.tup (.inl (.inr ⟨_, upd_same⟩)) (da_up (same_new (s.fh.free hp)) _ _ e))⟩
theorem eo_lst {t : TA} (h : EvA K w t δ ds) (hl : ds.length ≤ 100000) : EvO K w (tLst t) δ ds := fun _ _ _ F H _ S Q q =>
  h _ _ _ _ _ _ S _ fun vs F2 H2 s e => ⟨by rw [da_len e]; exact small_line hl, fun p hp =>
    q p vs F2 _ (s.trans (.mk1 s.fh hp ok_lst)) (s.fh.free hp) (by
      cases e1 : H p with
      | none => rfl
      | some o => rw [s.hs _ _ e1] at hp; cases hp) upd_same e⟩
theorem at_da {H : Hp} {xs : List V} {i : Int} (h : DpAll K H xs ds) (e : atI ds i = some d) : ∃ v, atI xs i = some v ∧ Dp K H v d := by
  unfold atI at e ⊢
  rw [da_len h]
  cases q : ixN ds.length i with
  | none => rw [q] at e; cases e
  | some j =>
    rw [q] at e
    exact da_get h e
/-- xs[i], xs a list or a tuple that is kept -/
theorem ev_ixL {i : Int} (ha : EvD K w ta δ (.list ds)) (hb : EvD K w tb δ (.int i)) (e : atI ds i = some d) : EvD K w (tOp (rIxL K) ta tb) δ d := fun _ _ _ F H _ S Q q =>
  ha _ _ _ _ _ _ S _ fun v F2 H2 s e1 => hb _ _ _ _ _ _ (S.up s) _ fun u F3 H3 s2 e2 => by
    obtain ⟨a, xs, rfl, hs, hd⟩ := dp_list (dp_up s2.ff _ _ e1)
    obtain ⟨v, g1, g2⟩ := at_da hd e
    exact ⟨a, xs, i, v, rfl, dp_int e2, s2.fh.seq hs, g1, q v F3 H3 (s.trans s2) g2⟩
theorem ev_ixT {i : Int} (ha : EvD K w ta δ (.tuple ds)) (hb : EvD K w tb δ (.int i)) (e : atI ds i = some d) : EvD K w (tOp (rIxT K) ta tb) δ d := fun _ _ _ F H _ S Q q =>
  ha _ _ _ _ _ _ S _ fun v F2 H2 s e1 => hb _ _ _ _ _ _ (S.up s) _ fun u F3 H3 s2 e2 => by
    obtain ⟨a, xs, rfl, hs, hd⟩ := dp_tuple (dp_up s2.ff _ _ e1)
    obtain ⟨v, g1, g2⟩ := at_da hd e
    exact ⟨a, xs, i, v, rfl, dp_int e2, sqt_up s2.fh hs, g1, q v F3 H3 (s.trans s2) g2⟩
theorem rd_ixL {i : Int} (ha : RdD K w ta δ (.list ds)) (hb : RdD K w tb δ (.int i)) (e : atI ds i = some d) : RdD K w (tOp (rIxL K) ta tb) δ d := fun _ _ _ F H _ S Q q =>
  ha _ _ _ _ _ _ S _ fun v F2 H2 s e1 => hb _ _ _ _ _ _ (S.up s) _ fun u F3 H3 s2 e2 => by
    obtain ⟨a, xs, rfl, hs, hd⟩ := dp_list (dp_up s2.hs _ _ e1)
    obtain ⟨v, g1, g2⟩ := at_da hd e
    exact ⟨a, xs, i, v, rfl, dp_int e2, hs, g1, q v F3 H3 (s.trans s2) g2⟩
theorem rd_ixT {i : Int} (ha : RdD K w ta δ (.tuple ds)) (hb : RdD K w tb δ (.int i)) (e : atI ds i = some d) : RdD K w (tOp (rIxT K) ta tb) δ d := fun _ _ _ F H _ S Q q =>
  ha _ _ _ _ _ _ S _ fun v F2 H2 s e1 => hb _ _ _ _ _ _ (S.up s) _ fun u F3 H3 s2 e2 => by
    obtain ⟨a, xs, rfl, hs, hd⟩ := dp_tuple (dp_up s2.hs _ _ e1)
    obtain ⟨v, g1, g2⟩ := at_da hd e
    exact ⟨a, xs, i, v, rfl, dp_int e2, hs, g1, q v F3 H3 (s.trans s2) g2⟩
/-! built-ins -/
theorem rd_call {r : List V → Hp → VK → Prop} {t : TA} {z : V} {e : PD} (h : RdA K w t δ ds) (hz : ∀ H : Hp, Dp K H z e) (hr : ∀ (H : Hp) (vs : List V), DpAll K H vs ds → ∀ Q : VK, Q z H → r vs H Q) : EvD K w (tCB r t) δ e := fun _ _ _ F H _ S Q q =>
  h _ _ _ _ _ _ S _ fun vs F2 H2 s e => hr H2 vs e Q (q z F2 H2 s (hz F2))
theorem da1 {H : Hp} {vs : List V} (h : DpAll K H vs [d]) : ∃ v, vs = [v] ∧ Dp K H v d := by
  cases h with
  | cons r t => cases t; exact ⟨_, rfl, r⟩
theorem da2 {H : Hp} {vs : List V} (h : DpAll K H vs [d, x]) : ∃ v u, vs = [v, u] ∧ Dp K H v d ∧ Dp K H u x := by
  cases h with
  | cons r t => obtain ⟨u, rfl, r2⟩ := da1 t; exact ⟨_, u, rfl, r, r2⟩
def seqOf : PD → Option (List PD)
  | .list xs => some xs
  | .tuple xs => some xs
  | _ => none
theorem dp_seq {H : Hp} {v : V} (h : Dp K H v d) (e : seqOf d = some ds) : ∃ a xs, v = .ref a ∧ (SqL K H a xs ∨ SqT K H a xs) ∧ DpAll K H xs ds := by
  cases h with
  | lst h1 h2 => cases e; exact ⟨_, _, rfl, .inl h1, h2⟩
  | tup h1 h2 => cases e; exact ⟨_, _, rfl, .inr h1, h2⟩
  | _ => cases e
abbrev rLen (K : PySem.W.Frag) : List V → Hp → VK → Prop := fun xs H Q => ∃ p ys, xs = [.ref p] ∧ (SqL K H p ys ∨ SqT K H p ys) ∧ Q (.int ys.length) H
theorem ev_len (ha : RdD K w ta δ d) (e : seqOf d = some ds := by rfl) : EvD K w (tCB (rLen K) (tCons ta tNil)) δ (.int ds.length) :=
  rd_call (ra_cons ha ra_nil) (fun H => .int _) fun H vs h Q q => by
    obtain ⟨v, rfl, r⟩ := da1 h
    obtain ⟨a, xs, rfl, hs, hd⟩ := dp_seq r e
    exact ⟨a, xs, rfl, hs, by rw [da_len hd]; exact q⟩
abbrev rInt1 : List V → Hp → VK → Prop := fun xs H Q => (∃ i, xs = [.int i] ∧ Q (.int i) H) ∨ ∃ k, xs = [.bl k] ∧ Q (.int (if k then 1 else 0)) H
theorem ev_toInt {i : Int} (ha : RdD K w ta δ (.int i)) : EvD K w (tCB rInt1 (tCons ta tNil)) δ (.int i) :=
  rd_call (ra_cons ha ra_nil) (fun H => .int _) fun H vs h Q q => by
    obtain ⟨v, rfl, r⟩ := da1 h
    cases r
    exact .inl ⟨i, rfl, q⟩
theorem ev_toIntB {b : Bool} (ha : RdD K w ta δ (.bool b)) : EvD K w (tCB rInt1 (tCons ta tNil)) δ (.int (if b then 1 else 0)) :=
  rd_call (ra_cons ha ra_nil) (fun H => .int _) fun H vs h Q q => by
    obtain ⟨v, rfl, r⟩ := da1 h
    cases r
    exact .inr ⟨b, rfl, q⟩
abbrev rMax2 : List V → Hp → VK → Prop := fun xs H Q => ∃ i j, xs = [.int i, .int j] ∧ Q (.int (if j > i then j else i)) H
abbrev rMin2 : List V → Hp → VK → Prop := fun xs H Q => ∃ i j, xs = [.int i, .int j] ∧ Q (.int (if j < i then j else i)) H
theorem ev_max2 {i j : Int} (ha : RdD K w ta δ (.int i)) (hb : RdD K w tb δ (.int j)) : EvD K w (tCB rMax2 (tCons ta (tCons tb tNil))) δ (.int (max i j)) :=
  rd_call (ra_cons ha (ra_cons hb ra_nil)) (fun H => .int _) fun H vs h Q q => by
    obtain ⟨v, u, rfl, r, r2⟩ := da2 h
    cases r
    cases r2
    refine ⟨i, j, rfl, ?_⟩
    rw [show (if j > i then j else i) = max i j by split <;> omega]
    exact q
theorem ev_min2 {i j : Int} (ha : RdD K w ta δ (.int i)) (hb : RdD K w tb δ (.int j)) : EvD K w (tCB rMin2 (tCons ta (tCons tb tNil))) δ (.int (min i j)) :=
  rd_call (ra_cons ha (ra_cons hb ra_nil)) (fun H => .int _) fun H vs h Q q => by
    obtain ⟨v, u, rfl, r, r2⟩ := da2 h
    cases r
    cases r2
    refine ⟨i, j, rfl, ?_⟩
    rw [show (if j < i then j else i) = min i j by split <;> omega]
    exact q
theorem ev_bits {i : Int} (ha : RdD K w ta δ (.int i)) : EvD K w (tBits ta) δ (.int (Builtin.Int.intBits i : Nat)) := fun _ _ _ F H σ S Q q =>
  ha _ _ _ _ _ _ S _ fun v F2 H2 s1 e1 => ⟨i, dp_int e1, q _ F2 H2 s1 (.int _)⟩
/-! x in xs -/
def flatD : PD → Bool
  | .none => true
  | .bool _ => true
  | .int _ => true
  | .str _ => true
  | _ => false
theorem flat_v {H : Hp} {v : V} (h : Dp K H v d) : flatV v = flatD d := by cases h <;> rfl
theorem flats_v {H : Hp} : ∀ {vs : List V} {ds : List PD}, DpAll K H vs ds → ds.all flatD = true → vs.all flatV = true
  | _, _, .nil, _ => rfl
  | _, _, .cons r t, e => by
    rw [List.all_cons, Bool.and_eq_true] at e ⊢
    exact ⟨by rw [flat_v r]; exact e.1, flats_v t e.2⟩
theorem eq_v {H : Hp} {v u : V} (h : Dp K H v x) (h2 : Dp K H u y) (f : flatD x = true) (g : flatD y = true) : eqV v u = PyData.eqv x y := by
  cases h <;> cases h2 <;> first | rfl | (cases f; done) | (cases g; done) | (simp [eqV, PyData.eqv]; done)
theorem in_v {H : Hp} {u : V} (h2 : Dp K H u y) (g : flatD y = true) : ∀ {vs : List V} {ds : List PD}, DpAll K H vs ds → ds.all flatD = true → inV u vs = ds.any fun z => PyData.eqv z y
  | _, _, .nil, _ => rfl
  | _, _, .cons r t, e => by
    rw [List.all_cons, Bool.and_eq_true] at e
    have ih := in_v h2 g t e.2
    unfold inV at ih ⊢
    rw [List.any_cons, List.any_cons, ih, eq_v r h2 e.1 g]
theorem ev_in (ha : RdD K w ta δ x) (hb : RdD K w tb δ d) (hx : flatD x = true) (hd : ds.all flatD = true) (e : seqOf d = some ds := by rfl) : EvD K w (tOp (rIn K false) ta tb) δ (.bool (ds.any fun z => PyData.eqv z x)) :=
  rd_op2 ha hb (fun H => .bl _) fun H v u h1 h2 Q q => by
    obtain ⟨a, xs, rfl, hs, hd'⟩ := dp_seq h2 e
    refine ⟨a, xs, rfl, hs, by rw [flat_v h1]; exact hx, flats_v hd' hd, ?_⟩
    rw [in_v h1 hx hd' hd]
    exact q
theorem ev_notin (ha : RdD K w ta δ x) (hb : RdD K w tb δ d) (hx : flatD x = true) (hd : ds.all flatD = true) (e : seqOf d = some ds := by rfl) : EvD K w (tOp (rIn K true) ta tb) δ (.bool (!ds.any fun z => PyData.eqv z x)) :=
  rd_op2 ha hb (fun H => .bl _) fun H v u h1 h2 Q q => by
    obtain ⟨a, xs, rfl, hs, hd'⟩ := dp_seq h2 e
    refine ⟨a, xs, rfl, hs, by rw [flat_v h1]; exact hx, flats_v hd' hd, ?_⟩
    rw [in_v h1 hx hd' hd]
    exact q
end
end MU

namespace MU
open PySem PySem.Spec L2
/-! ## statements, by data -/
inductive Ret where
  | d (x : PD)
  | own (xs : List PD)
def RetOk (K : PySem.W.Frag) (H0 F H : Hp) (v : V) : Ret → Prop
  | .d x => Dp K F v x
  | .own xs => ∃ p vs, v = .ref p ∧ F p = none ∧ H0 p = none ∧ H p = some (.lst vs) ∧ DpAll K F vs xs
abbrev Dl := List Slot
abbrev PN := List Slot → Prop
/-- from the slots δ the statement goes on with slots of nx (bk, ct: by break, continue), or hands back by rt -/
def Run (K : PySem.W.Frag) (w : World) (ts : TS) (δ : List Slot) (nx : PN) (rt : List Slot → Ret → Prop) (bk ct : PN) : Prop :=
  ∀ F0 H0 m F H σ, Sig K w F0 H0 m F H σ δ → ∀ D : Ends,
    (∀ δ' F2 H2 σ2, nx δ' → Same F F2 → Sig K w F0 H0 m F2 H2 σ2 δ' → D.nx σ2 H2) →
    (∀ δ' r v F2 H2 σ2, rt δ' r → Same F F2 → Sig K w F0 H0 m F2 H2 σ2 δ' → RetOk K H0 F2 H2 v r → D.rt v H2) →
    (∀ δ' F2 H2 σ2, bk δ' → Same F F2 → Sig K w F0 H0 m F2 H2 σ2 δ' → D.bk σ2 H2) →
    (∀ δ' F2 H2 σ2, ct δ' → Same F F2 → Sig K w F0 H0 m F2 H2 σ2 δ' → D.ct σ2 H2) → ts D σ H
abbrev no1 : PN := fun _ => False
abbrev no2 : List Slot → Ret → Prop := fun _ _ => False
section
variable {K : PySem.W.Frag} {w : World} {δ δ' : List Slot} {te ta tb : TE} {tt : TT} {t u : TS} {d x y : PD} {ds es : List PD} {nx nx' mid bk ct : PN} {rt : List Slot → Ret → Prop} {g : TG}
theorem new_loc {F0 H0 F H : Hp} {m : Addr → Prop} {σ : St} {p : Addr} {s : Slot} (S : Sig K w F0 H0 m F H σ δ) (np : H p = none) (l : s.lc = true := by rfl) : (s.lc = true → H0 p = none) ∧ (s.lc = false → m p) := by
  have q : H0 p = none := by
    cases q : H0 p with
    | none => rfl
    | some o => exact absurd np (S.st.hn p (by rw [q]; exact fun z => nomatch z))
  exact ⟨fun _ => q, fun z => by rw [l] at z; cases z⟩
theorem Run.imp (h : Run K w t δ nx rt bk ct) (n : ∀ δ', nx δ' → nx' δ') : Run K w t δ nx' rt bk ct := fun _ _ _ F H σ S D a b c e => h _ _ _ _ _ _ S D (fun δ' F2 H2 σ2 q => a δ' F2 H2 σ2 (n _ q)) b c e
theorem run_next (h : nx δ) : Run K w tNext δ nx rt bk ct := fun _ _ _ F H σ S D a _ _ _ => a δ F H σ h (Same.refl F) S
theorem run_seq (h : Run K w t δ mid rt bk ct) (h2 : ∀ δ', mid δ' → Run K w u δ' nx rt bk ct) : Run K w (tSeq t u) δ nx rt bk ct := fun _ _ _ F H σ S D a b c e =>
  h _ _ _ _ _ _ S { D with nx := u D } (fun δ' F2 H2 σ2 q s S2 => h2 δ' q _ _ _ _ _ _ S2 D (fun δ'' F3 H3 σ3 q3 s3 S3 => a δ'' F3 H3 σ3 q3 (s.trans s3) S3)
      (fun δ'' r v F3 H3 σ3 q3 s3 S3 R => b δ'' r v F3 H3 σ3 q3 (s.trans s3) S3 R) (fun δ'' F3 H3 σ3 q3 s3 S3 => c δ'' F3 H3 σ3 q3 (s.trans s3) S3) (fun δ'' F3 H3 σ3 q3 s3 S3 => e δ'' F3 H3 σ3 q3 (s.trans s3) S3)) b c e
/-- x = e -/
theorem run_set {i : Nat} (h : EvD K w te δ d) (n : nx (δ.set i (.d d))) : Run K w (tAsg te (gName i)) δ nx rt bk ct := fun _ _ _ F H σ S D a _ _ _ =>
  h _ _ _ _ _ _ S _ fun v F2 H2 s e => a _ F2 H2 _ n s.ff ((S.up s).setD i e)
/-- x = e, e a new list that will change -/
theorem run_setO {i : Nat} (h : EvO K w te δ ds) (n : nx (δ.set i (.own true ds))) : Run K w (tAsg te (gName i)) δ nx rt bk ct := fun F0 H0 m F H σ S D a _ _ _ =>
  h _ _ _ _ _ _ S _ fun p vs F2 H2 s f np e dp => a _ F2 H2 _ n s.ff ((S.up s).setM i ⟨p, vs, rfl, f, e, dp⟩ rfl (new_loc S np) fun j sj _ ej mj eq => by
      obtain ⟨p', e1, _⟩ := S.ref ej mj
      rw [e1] at eq
      cases eq
      have q := S.ok j sj ej
      rw [e1] at q
      cases sj with
      | emp => cases mj
      | d x => cases mj
      | own b xs => obtain ⟨_, _, h1, _, h3, _⟩ := q; cases h1; rw [np] at h3; cases h3
      | gen b' n => obtain ⟨_, h1, _, _, _, _, h3, _⟩ := q; cases h1; rw [np] at h3; cases h3
      | set S' n => obtain ⟨_, h1, _, h3⟩ := q; cases h1; rw [np] at h3; cases h3
      | ob o9 => obtain ⟨_, h1, _, h3⟩ := q; cases h1; rw [np] at h3; cases h3)
theorem run_if {b : Bool} (h : TsB K w tt δ b) (h1 : b = true → Run K w t δ nx rt bk ct) (h2 : b = false → Run K w u δ nx rt bk ct) : Run K w (tIfS tt t u) δ nx rt bk ct := fun _ _ _ F H σ S D a r c e =>
  h _ _ _ _ _ _ S _ fun F2 H2 s => by
    cases b with
    | true => exact h1 rfl _ _ _ _ _ _ (S.up s) D (fun δ' F3 H3 σ3 q s2 S3 => a δ' F3 H3 σ3 q (s.ff.trans s2) S3) (fun δ' z v F3 H3 σ3 q s2 S3 R => r δ' z v F3 H3 σ3 q (s.ff.trans s2) S3 R) (fun δ' F3 H3 σ3 q s2 S3 => c δ' F3 H3 σ3 q (s.ff.trans s2) S3) (fun δ' F3 H3 σ3 q s2 S3 => e δ' F3 H3 σ3 q (s.ff.trans s2) S3)
    | false => exact h2 rfl _ _ _ _ _ _ (S.up s) D (fun δ' F3 H3 σ3 q s2 S3 => a δ' F3 H3 σ3 q (s.ff.trans s2) S3) (fun δ' z v F3 H3 σ3 q s2 S3 R => r δ' z v F3 H3 σ3 q (s.ff.trans s2) S3 R) (fun δ' F3 H3 σ3 q s2 S3 => c δ' F3 H3 σ3 q (s.ff.trans s2) S3) (fun δ' F3 H3 σ3 q s2 S3 => e δ' F3 H3 σ3 q (s.ff.trans s2) S3)
theorem run_ret (h : EvD K w te δ d) (n : rt δ (.d d)) : Run K w (tRet te) δ nx rt bk ct := fun _ _ _ F H σ S D _ b _ _ =>
  h _ _ _ _ _ _ S _ fun v F2 H2 s e => b δ (.d d) v F2 H2 σ n s.ff (S.up s) e
theorem run_retO (h : EvO K w te δ ds) (n : rt δ (.own ds)) : Run K w (tRet te) δ nx rt bk ct := fun F0 H0 m F H σ S D _ b _ _ =>
  h _ _ _ _ _ _ S _ fun p vs F2 H2 s f np e dp => b δ (.own ds) (.ref p) F2 H2 σ n s.ff (S.up s) ⟨p, vs, rfl, f, (by
    cases q : H0 p with
    | none => rfl
    | some o => exact absurd np (S.st.hn p (by rw [q]; exact fun z => nomatch z))), e, dp⟩
/-- return x, x the name of a list of the def's own -/
theorem run_retV {i : Nat} (hi : δ[i]? = some (.own true ds)) (n : rt δ (.own ds)) : Run K w (tRet (tVar i)) δ nx rt bk ct := fun F0 H0 m F H σ S D _ b _ _ => by
  obtain ⟨p, e, f⟩ := S.ref hi rfl
  obtain ⟨p', vs, h1, h2, h3, h4⟩ := S.ok i _ hi
  rw [e] at h1
  cases h1
  have q := (S.fr i _ p hi rfl e).1 rfl
  exact ⟨_, e, b δ (.own ds) (.ref p) F H σ n (Same.refl F) S ⟨p, vs, rfl, f, q, h3, h4⟩⟩
theorem run_drop (h : EvD K w te δ d) (n : nx δ) : Run K w (tDrop te) δ nx rt bk ct := fun _ _ _ F H σ S D a _ _ _ =>
  h _ _ _ _ _ _ S _ fun v F2 H2 s e => a _ F2 H2 _ n s.ff (S.up s)
theorem run_break (n : bk δ) : Run K w tBreak δ nx rt bk ct := fun _ _ _ F H σ S D _ _ c _ => c δ F H σ n (Same.refl F) S
theorem run_cont (n : ct δ) : Run K w tCont δ nx rt bk ct := fun _ _ _ F H σ S D _ _ _ e => e δ F H σ n (Same.refl F) S
theorem run_never (n : False) : Run K w t δ nx rt bk ct := n.elim
end
end MU

namespace MU
open PySem PySem.Spec L2
section
variable {K : PySem.W.Frag} {w : World} {δ δ' : List Slot} {te ta tb : TE} {tt : TT} {t u : TS} {d x y : PD} {ds es : List PD} {nx nx' mid bk ct : PN} {rt : List Slot → Ret → Prop} {g : TG} {wi : TI}
/-! ## lists of one's own that change -/
theorem Sig.own {F0 H0 F H : Hp} {m : Addr → Prop} {σ : L2.St} (S : Sig K w F0 H0 m F H σ δ) {i : Nat} {b : Bool} (hi : δ[i]? = some (.own b ds)) : ∃ p vs, σ[i]? = some (some (.ref p)) ∧ F p = none ∧ H p = some (.lst vs) ∧ DpAll K F vs ds := by
  obtain ⟨p, e, f⟩ := S.ref hi rfl
  obtain ⟨p', vs, h1, h2, h3, h4⟩ := S.ok i _ hi
  rw [e] at h1
  cases h1
  exact ⟨p, vs, e, f, h3, h4⟩
theorem lt_line {n : Nat} (h : n < 100000) : n < sizeLine := Nat.lt_of_lt_of_le h (by decide)
theorem run_append {i : Nat} {b : Bool} (hi : δ[i]? = some (.own b ds)) (h : EvD K w te δ d) (hl : ds.length < 100000) (n : nx (δ.set i (.own b (ds ++ [d])))) :
    Run K w (tDrop (tBM K "list" rAppend (tVar i) (tCons te tNil))) δ nx rt bk ct := fun _ _ _ F H σ S D a _ _ _ => by
  obtain ⟨p, vs, e1, f1, h1, d1⟩ := S.own hi
  refine ⟨_, e1, .inl ⟨rfl, vs, .inl (.inl h1)⟩, h _ _ _ _ _ _ S _ fun v F2 H2 s e => ?_⟩
  have f2 : F2 p = none := s.nj p f1 (by rw [h1]; exact fun z => nomatch z)
  have h2 : H2 p = some (.lst vs) := s.hs _ _ h1
  refine ⟨p, vs, v, rfl, rfl, h2, by rw [da_len d1]; exact lt_line hl, ?_⟩
  exact a _ F2 _ σ n s.ff ((S.up s).chg hi rfl e1 f2 (by rw [h2]; exact fun z => nomatch z) ⟨p, _, rfl, f2, upd_same, da_app (da_up s.ff _ _ d1) (.cons e .nil)⟩ rfl rfl)
theorem run_setitem {i j : Nat} {k : Int} {b : Bool} {tk : TE} (hi : δ[i]? = some (.own b ds)) (h : EvD K w te δ d) (hk : EvD K w tk δ (.int k)) (hj : ixN ds.length k = some j) (n : nx (δ.set i (.own b (ds.set j d)))) :
    Run K w (tAsg te (gSub (tVar i) tk rSetL)) δ nx rt bk ct := fun _ _ _ F H σ S D a _ _ _ =>
  h _ _ _ _ _ _ S _ fun v F2 H2 s e => by
    obtain ⟨p, vs, e1, f1, h1, d1⟩ := (S.up s).own hi
    refine ⟨_, e1, hk _ _ _ _ _ _ (S.up s) _ fun u F3 H3 s2 e2 => ?_⟩
    have f2 : F3 p = none := s2.nj p f1 (by rw [h1]; exact fun z => nomatch z)
    have h2 : H3 p = some (.lst vs) := s2.hs _ _ h1
    refine ⟨p, vs, k, j, rfl, dp_int e2, h2, by rw [da_len d1]; exact hj, ?_⟩
    exact a _ F3 _ σ n (s.ff.trans s2.ff) (((S.up s).up s2).chg hi rfl e1 f2 (by rw [h2]; exact fun z => nomatch z) ⟨p, _, rfl, f2, upd_same, da_set (dp_up s2.ff _ _ e) j (da_up s2.ff _ _ d1)⟩ rfl rfl)
/-- xs.reverse() -/
theorem run_reverse {i : Nat} {b : Bool} (hi : δ[i]? = some (.own b ds)) (n : nx (δ.set i (.own b ds.reverse))) : Run K w (tDrop (tBM0 K "list" rReverse (tVar i))) δ nx rt bk ct := fun _ _ _ F H σ S D a _ _ _ => by
  obtain ⟨p, vs, e1, f1, h1, d1⟩ := S.own hi
  refine ⟨_, e1, .inl ⟨rfl, vs, .inl (.inl h1)⟩, p, vs, rfl, rfl, h1, ?_⟩
  exact a _ F _ σ n (Same.refl F) (S.chg hi rfl e1 f1 (by rw [h1]; exact fun z => nomatch z) ⟨p, _, rfl, f1, upd_same, da_rev d1⟩ rfl rfl)
/-- a, b = e1, e2 -/
theorem run_par {i j : Nat} {tz : TA} (h : EvA K w tz δ [x, y]) (n : nx ((δ.set i (.d x)).set j (.d y))) : Run K w (tPar i j tz) δ nx rt bk ct := fun _ _ _ F H σ S D a _ _ _ =>
  h _ _ _ _ _ _ S _ fun vs F2 H2 s e => by
    obtain ⟨v, u, rfl, r1, r2⟩ := da2 e
    exact ⟨v, u, rfl, a _ F2 H2 _ n s.ff (((S.up s).setD i r1).setD j r2)⟩
/-! ## targets -/
def TgD (K : PySem.W.Frag) (w : World) (g : TG) (is : List Nat) (δ : List Slot) (x : PD) (δ' : List Slot) : Prop :=
  ∀ F0 H0 m F H σ v, Sig K w F0 H0 m F H σ δ → Dp K F v x → ∀ Q : L2.St → Hp → Prop, (∀ σ', Sig K w F0 H0 m F H σ' δ' → σ'.length = σ.length → (∀ j, j ∉ is → σ'[j]? = σ[j]?) → Q σ' H) → g v σ H Q
theorem tg_name {i : Nat} : TgD K w (gName i) [i] δ x (δ.set i (.d x)) := fun _ _ _ F H σ v S e Q q =>
  q _ (S.setD i e) (List.length_set ..) fun j hj => List.getElem?_set_ne (fun z => hj (by rw [z]; exact List.mem_cons_self))
def TgsD (K : PySem.W.Frag) (w : World) (g : TGs) (is : List Nat) (δ : List Slot) (xs : List PD) (δ' : List Slot) : Prop :=
  ∀ F0 H0 m F H σ vs, Sig K w F0 H0 m F H σ δ → DpAll K F vs xs → ∀ Q : L2.St → Hp → Prop, (∀ σ', Sig K w F0 H0 m F H σ' δ' → σ'.length = σ.length → (∀ j, j ∉ is → σ'[j]? = σ[j]?) → Q σ' H) → g vs σ H Q
theorem tgs_nil : TgsD K w gNil [] δ [] δ := fun _ _ _ F H σ vs S e Q q => by
  cases e
  exact ⟨rfl, q σ S rfl fun _ _ => rfl⟩
theorem tgs_cons {gs : TGs} {i1 i2 : List Nat} {δ1 δ2 : List Slot} (h : TgD K w g i1 δ x δ1) (h2 : TgsD K w gs i2 δ1 ds δ2) : TgsD K w (gCons g gs) (i1 ++ i2) δ (x :: ds) δ2 := fun _ _ _ F H σ vs S e Q q => by
  cases e with
  | cons r t =>
    exact ⟨_, _, rfl, h _ _ _ _ _ _ _ S r _ fun σ1 S1 l1 k1 => h2 _ _ _ _ _ _ _ S1 t _ fun σ2 S2 l2 k2 => q σ2 S2 (l2.trans l1) fun j hj =>
      (k2 j fun z => hj (List.mem_append_right _ z)).trans (k1 j fun z => hj (List.mem_append_left _ z))⟩
theorem tg_tup {gs : TGs} {is : List Nat} {n : Nat} (h : TgsD K w gs is δ ds δ') (hn : ds.length = n := by rfl) : TgD K w (gTup K n gs) is δ (.tuple ds) δ' := fun _ _ _ F H σ v S e Q q => by
  obtain ⟨a, xs, rfl, hs, hd⟩ := dp_tuple e
  exact ⟨a, xs, rfl, sqt_up S.fh hs, (da_len hd).trans hn, h _ _ _ _ _ _ _ S hd Q q⟩
/-- a, b = e -/
theorem run_asgT {δ1 : List Slot} {is : List Nat} (h : EvD K w te δ x) (hg : TgD K w g is δ x δ1) (n : nx δ1) : Run K w (tAsg te g) δ nx rt bk ct := fun _ _ _ F H σ S D a _ _ _ =>
  h _ _ _ _ _ _ S _ fun v F2 H2 s e => hg _ _ _ _ _ _ _ (S.up s) e _ fun σ' S' _ _ => a δ1 F2 H2 σ' n s.ff S'
/-! ## what is walked -/
def Yl (K : PySem.W.Frag) (J : It) (F : Hp) (ds : List PD) : Prop := ∀ F' H', Same F F' → Same F' H' → ∀ i : Nat,
  (∀ d, ds[i]? = some d → J.go i H' ∧ ∀ x H'', J.yld i H' x H'' → ∃ F'', Stp m0 F' H' F'' H'' ∧ Dp K F'' x d) ∧ (ds.length ≤ i → J.stop i H')
def ItD (K : PySem.W.Frag) (w : World) (wi : TI) (δ : List Slot) (ds : List PD) : Prop := ∀ F0 H0 m F H σ, Sig K w F0 H0 m F H σ δ → ∀ R : It → Hp → Prop, (∀ J F2 H2, Stp m0 F H F2 H2 → Yl K J F2 ds → R J H2) → wi σ H R
theorem yl_list {F : Hp} {a : Addr} {xs : List V} (hs : SqL K F a xs) (hd : DpAll K F xs ds) : Yl K (Itl K a) F ds := fun F' H' f h i =>
  ⟨fun d e => by
    obtain ⟨v, g1, g2⟩ := da_get hd e
    refine ⟨⟨xs, v, h.seq (f.seq hs), g1⟩, fun x H'' y => ?_⟩
    obtain ⟨rfl, y2⟩ := y
    have q := y2 xs (h.seq (f.seq hs))
    rw [g1] at q
    cases q
    exact ⟨F', .refl h, dp_up f _ _ g2⟩, fun l => ⟨xs, h.seq (f.seq hs), by rw [da_len hd]; exact l⟩⟩
theorem yl_tup {F : Hp} {a : Addr} {xs : List V} (hs : SqT K F a xs) (hd : DpAll K F xs ds) : Yl K (Itt K a) F ds := fun F' H' f h i =>
  ⟨fun d e => by
    obtain ⟨v, g1, g2⟩ := da_get hd e
    refine ⟨⟨xs, v, sqt_up h (sqt_up f hs), g1⟩, fun x H'' y => ?_⟩
    obtain ⟨rfl, y2⟩ := y
    have q := y2 xs (sqt_up h (sqt_up f hs))
    rw [g1] at q
    cases q
    exact ⟨F', .refl h, dp_up f _ _ g2⟩, fun l => ⟨xs, sqt_up h (sqt_up f hs), by rw [da_len hd]; exact l⟩⟩
def rngD (lo : Int) (n : Nat) : List PD := (List.range n).map fun k : Nat => .int (lo + k)
theorem rng_len (lo : Int) (n : Nat) : (rngD lo n).length = n := by unfold rngD; rw [List.length_map, List.length_range]
theorem rng_at {lo : Int} {n i : Nat} {d : PD} (h : (rngD lo n)[i]? = some d) : i < n ∧ d = .int (lo + i) := by
  unfold rngD at h
  rw [List.getElem?_map] at h
  by_cases q : i < n
  · rw [List.getElem?_range q] at h
    cases h
    exact ⟨q, rfl⟩
  · rw [List.getElem?_eq_none (by rw [List.length_range]; omega)] at h
    cases h
theorem yl_rng {F : Hp} {lo : Int} {n : Nat} : Yl K (Itr lo n) F (rngD lo n) := fun F' H' f h i =>
  ⟨fun d e => by
    obtain ⟨l, rfl⟩ := rng_at e
    refine ⟨l, fun x H'' y => ?_⟩
    obtain ⟨rfl, rfl⟩ := y
    exact ⟨F', .refl h, .int _⟩, fun l => by rw [rng_len] at l; exact l⟩
theorem it_list (h : EvD K w te δ (.list ds)) : ItD K w (iList K te) δ ds := fun _ _ _ F H σ S R q =>
  h _ _ _ _ _ _ S _ fun v F2 H2 s e => by
    obtain ⟨a, xs, rfl, hs, hd⟩ := dp_list e
    exact ⟨a, rfl, ⟨xs, s.fh.seq hs⟩, q _ F2 H2 s (yl_list hs hd)⟩
theorem it_tup (h : EvD K w te δ (.tuple ds)) : ItD K w (iTup K te) δ ds := fun _ _ _ F H σ S R q =>
  h _ _ _ _ _ _ S _ fun v F2 H2 s e => by
    obtain ⟨a, xs, rfl, hs, hd⟩ := dp_tuple e
    exact ⟨a, rfl, ⟨xs, sqt_up s.fh hs⟩, q _ F2 H2 s (yl_tup hs hd)⟩
theorem it_rng1 {n : Int} (h : RdD K w te δ (.int n)) (h1 : -(2 ^ 62) ≤ n) (h2 : n < 2 ^ 62) : ItD K w (iRng1 (tCons te tNil)) δ (rngD 0 n.toNat) := fun _ _ _ F H σ S R q =>
  h _ _ _ _ _ _ S _ fun v F2 H2 s e => ⟨n, by rw [dp_int e], h1, h2, q _ F2 H2 s yl_rng⟩
theorem it_rng2 {lo hi : Int} (ha : RdD K w ta δ (.int lo)) (hb : RdD K w tb δ (.int hi)) (h : -(2 ^ 62) ≤ lo ∧ lo < 2 ^ 62 ∧ -(2 ^ 62) ≤ hi ∧ hi < 2 ^ 62) : ItD K w (iRng2 (tCons ta (tCons tb tNil))) δ (rngD lo (hi - lo).toNat) := fun _ _ _ F H σ S R q =>
  ha _ _ _ _ _ _ S _ fun v F2 H2 s e => hb _ _ _ _ _ _ (S.up s) _ fun u F3 H3 s2 e2 => ⟨lo, hi, by rw [dp_int e, dp_int e2], h, q _ F3 H3 (s.trans s2) yl_rng⟩
/-! ## loops -/
theorem run_for (hi : ItD K w wi δ ds) (Inv : Nat → PN) (h0 : Inv 0 δ)
    (hs : ∀ (k : Nat) (x : PD) (δ' : List Slot), ds[k]? = some x → Inv k δ' → ∃ is δ1, TgD K w g is δ' x δ1 ∧ Run K w t δ1 (Inv (k + 1)) rt nx (Inv (k + 1)))
    (he : ∀ δ', Inv ds.length δ' → nx δ') : Run K w (tFor wi g t) δ nx rt bk ct := fun F0 H0 m F H σ S D a r c e =>
  hi _ _ _ _ _ _ S _ fun J F2 H2 s Y => by
    refine ⟨fun i n σ' H' => n = ds.length - i ∧ i ≤ ds.length ∧ ∃ δ' F', Inv i δ' ∧ Same F2 F' ∧ Sig K w F0 H0 m F' H' σ' δ', ⟨ds.length, by omega, Nat.zero_le _, δ, F2, h0, Same.refl F2, S.up s⟩, ?_⟩
    rintro i n σ' H' ⟨rfl, hi', δ', F', iv, f, S'⟩
    have y := Y F' H' f S'.fh i
    by_cases q : i < ds.length
    · refine .inr ?_
      have ex : ds[i]? = some ds[i] := List.getElem?_eq_getElem q
      obtain ⟨g1, g2⟩ := y.1 _ ex
      refine ⟨g1, fun σ2 H3 => ∃ δ2 F3, Inv (i + 1) δ2 ∧ Same F2 F3 ∧ Sig K w F0 H0 m F3 H3 σ2 δ2, fun σ2 H3 ⟨δ2, F3, b1, b2, b3⟩ => ⟨ds.length - (i + 1), by omega, rfl, q, δ2, F3, b1, b2, b3⟩, fun x H3 yy => ?_⟩
      obtain ⟨F3, s3, e3⟩ := g2 x H3 yy
      obtain ⟨is, δ1, tg, rn⟩ := hs i _ δ' ex iv
      refine tg _ _ _ _ _ _ _ (S'.up s3) e3 _ fun σ2 S2 _ _ => ?_
      exact rn _ _ _ _ _ _ S2 _ (fun δ2 F4 H4 σ3 p f4 S4 => ⟨δ2, F4, p, (f.trans s3.ff).trans f4, S4⟩) (fun δ2 z v F4 H4 σ3 p f4 S4 R => r δ2 z v F4 H4 σ3 p (((s.ff.trans f).trans s3.ff).trans f4) S4 R)
        (fun δ2 F4 H4 σ3 p f4 S4 => a δ2 F4 H4 σ3 p (((s.ff.trans f).trans s3.ff).trans f4) S4) (fun δ2 F4 H4 σ3 p f4 S4 => ⟨δ2, F4, p, (f.trans s3.ff).trans f4, S4⟩)
    · refine .inl ⟨y.2 (by omega), a δ' F' H' σ' (he δ' ?_) (s.ff.trans f) S'⟩
      have z : i = ds.length := by omega
      rw [← z]
      exact iv
theorem run_while {tc : TT} (Inv : Nat → PN) (h0 : ∃ n, Inv n δ)
    (hs : ∀ n δ', Inv n δ' → ∃ b, TsB K w tc δ' b ∧ (b = true → Run K w t δ' (fun δ2 => ∃ n', n' < n ∧ Inv n' δ2) rt nx (fun δ2 => ∃ n', n' < n ∧ Inv n' δ2)) ∧ (b = false → nx δ')) :
    Run K w (tWhile tc t) δ nx rt bk ct := fun F0 H0 m F H σ S D a r c e => by
  obtain ⟨n0, i0⟩ := h0
  refine ⟨fun n σ' H' => ∃ δ' F', Inv n δ' ∧ Same F F' ∧ Sig K w F0 H0 m F' H' σ' δ', ⟨n0, δ, F, i0, Same.refl F, S⟩, ?_⟩
  rintro n σ' H' ⟨δ', F', iv, f, S'⟩
  obtain ⟨b, tb, h1, h2⟩ := hs n δ' iv
  refine tb _ _ _ _ _ _ S' _ fun F2 H2 s => ?_
  cases b with
  | true =>
    rw [if_pos rfl]
    refine ⟨fun σ2 H3 => ∃ n', n' < n ∧ ∃ δ2 F3, Inv n' δ2 ∧ Same F F3 ∧ Sig K w F0 H0 m F3 H3 σ2 δ2, fun σ2 H3 ⟨n', l, q⟩ => ⟨n', l, q⟩, ?_⟩
    exact h1 rfl _ _ _ _ _ _ (S'.up s) _ (fun δ2 F4 H4 σ3 ⟨n', l, p⟩ f4 S4 => ⟨n', l, δ2, F4, p, (f.trans s.ff).trans f4, S4⟩) (fun δ2 z v F4 H4 σ3 p f4 S4 R => r δ2 z v F4 H4 σ3 p ((f.trans s.ff).trans f4) S4 R)
      (fun δ2 F4 H4 σ3 p f4 S4 => a δ2 F4 H4 σ3 p ((f.trans s.ff).trans f4) S4) (fun δ2 F4 H4 σ3 ⟨n', l, p⟩ f4 S4 => ⟨n', l, δ2, F4, p, (f.trans s.ff).trans f4, S4⟩)
  | false =>
    rw [if_neg Bool.false_ne_true]
    exact a δ' F2 H2 σ' (h2 rfl) (f.trans s.ff) (S'.up s)
/-! ## comprehensions -/
theorem wipe_get (s : L2.St) : ∀ (vs : List Nat) (j : Nat), (L2.wipe s vs)[j]? = if j ∈ vs ∧ j < s.length then some none else s[j]?
  | [], j => by
    rw [if_neg (fun z => by cases z.1)]
    rfl
  | v :: vs, j => by
    unfold L2.wipe
    by_cases h : v = j
    · subst h
      by_cases q : v < s.length
      · rw [List.getElem?_set_self (by rw [L2.wipe_length]; exact q), if_pos ⟨List.mem_cons_self, q⟩]
      · rw [List.getElem?_eq_none (by rw [List.length_set, L2.wipe_length]; omega), if_neg (fun z => q z.2), List.getElem?_eq_none (by omega)]
    · rw [List.getElem?_set_ne h, wipe_get s vs j]
      by_cases q : j ∈ vs ∧ j < s.length
      · rw [if_pos q, if_pos ⟨List.mem_cons_of_mem _ q.1, q.2⟩]
      · rw [if_neg q, if_neg fun z => q ⟨by
          rcases List.mem_cons.mp z.1 with e | e
          · exact absurd e.symm h
          · exact e, z.2⟩]
theorem wipe_back {s s' : L2.St} {vs is : List Nat} (hl : s'.length = (L2.wipe s vs).length) (hk : ∀ j, j ∉ is → s'[j]? = (L2.wipe s vs)[j]?) (hi : ∀ j ∈ is, j ∈ vs) : L2.wipe s' vs = L2.wipe s vs := by
  rw [L2.wipe_length] at hl
  refine List.ext_getElem? fun j => ?_
  rw [wipe_get, wipe_get]
  by_cases q : j ∈ vs ∧ j < s.length
  · rw [if_pos q, if_pos ⟨q.1, by rw [hl]; exact q.2⟩]
  · rw [if_neg q, if_neg (fun z => q ⟨z.1, by rw [← hl]; exact z.2⟩)]
    by_cases z : j ∈ vs
    · have l : ¬ j < s.length := fun y => q ⟨z, y⟩
      rw [List.getElem?_eq_none (by omega), List.getElem?_eq_none (by omega)]
    · rw [hk j (fun y => z (hi j y)), wipe_get, if_neg q]
theorem ts_yes : TsB K w tYes δ true := fun _ _ _ F H σ S Q q => q F H (.refl S.fh)
theorem take_more {α : Type} {l : List α} {i : Nat} {x : α} (h : l[i]? = some x) : l.take (i + 1) = l.take i ++ [x] := by rw [List.take_add_one, h]; rfl
theorem eo_lc {vs : List Nat} (hi : ItD K w wi δ ds) (f : PD → Option PD) (hl : ds.length ≤ 100000)
    (hs : ∀ (k : Nat) (x : PD), ds[k]? = some x → ∃ is δ1 b, (∀ j ∈ is, j ∈ vs) ∧ TgD K w g is (wipeD δ vs) x δ1 ∧ TsB K w tt δ1 b ∧ (b = true → ∃ y, EvD K w te δ1 y ∧ f x = some y) ∧ (b = false → f x = none)) :
    EvO K w (tLc wi g tt te vs) δ (ds.filterMap f) := fun F0 H0 m F H σ S Q q =>
  hi _ _ _ _ _ _ S _ fun J F2 H2 s Y => fun D nD => by
    have f2 : F2 D = none := s.fh.free nD
    refine ⟨fun i n H' => n = ds.length - i ∧ i ≤ ds.length ∧ ∃ F' acc, Stp m0 F2 H2 F' H' ∧ F' D = none ∧ H' D = some (.lst acc) ∧ DpAll K F' acc ((ds.take i).filterMap f), ⟨ds.length, by omega, Nat.zero_le _, F2, [], .mk1 s.fh nD, f2, upd_same, .nil⟩, ?_⟩
    rintro i n H' ⟨rfl, hi', F', acc, st, fD, hD, hd⟩
    have y := Y F' H' st.ff st.fh i
    by_cases z : i < ds.length
    · refine .inr ?_
      have ex : ds[i]? = some ds[i] := List.getElem?_eq_getElem z
      obtain ⟨g1, g2⟩ := y.1 _ ex
      refine ⟨g1, fun H' => i + 1 ≤ ds.length ∧ ∃ F' acc, Stp m0 F2 H2 F' H' ∧ F' D = none ∧ H' D = some (.lst acc) ∧ DpAll K F' acc ((ds.take (i + 1)).filterMap f), fun H' h' => ⟨ds.length - (i + 1), by omega, rfl, h'⟩, fun x H3 yy => ?_⟩
      obtain ⟨F3, s3, e3⟩ := g2 x H3 yy
      obtain ⟨is, δ1, b, iv, tg, tb, h1, h2⟩ := hs i _ ex
      refine tg _ _ _ _ _ _ _ ((((S.up s).up st).up s3).wipe vs) e3 _ fun σ2 S2 l2 k2 => ⟨wipe_back l2 k2 iv, ?_⟩
      refine tb _ _ _ _ _ _ S2 _ fun F4 H4 s4 => ?_
      have D3 : H3 D = some (.lst acc) := s3.hs _ _ hD
      have n3 : F3 D = none := s3.nj D fD (by rw [hD]; exact fun z => nomatch z)
      cases b with
      | true =>
        rw [if_pos rfl]
        obtain ⟨y1, ev, fy⟩ := h1 rfl
        refine ev _ _ _ _ _ _ (S2.up s4) _ fun v F5 H5 s5 e5 => ?_
        have D5 : H5 D = some (.lst acc) := s5.hs _ _ (s4.hs _ _ D3)
        have n5 : F5 D = none := s5.nj D (s4.nj D n3 (by rw [D3]; exact fun z => nomatch z)) (by rw [s4.hs _ _ D3]; exact fun z => nomatch z)
        have stA : Stp m0 F2 H2 F5 H5 := ((st.trans s3).trans s4).trans s5
        refine ⟨acc, D5, lt_line ?_, z, F5, acc ++ [v], ⟨stA.ff, fun b o eb => ?_, fun a o _ ea => ?_, stA.nj, fun a na => up_some (stA.hn a na), fun n => (stA.nd n).put ok_lst⟩, n5, upd_same, ?_⟩
        · rw [da_len hd]
          have := List.length_filterMap_le f (ds.take i)
          rw [List.length_take] at this
          omega
        · rw [upd_ne (ne_of_none eb n5)]
          exact stA.fh b o eb
        · rw [upd_ne (ne_of_none ea nD)]
          exact stA.hs a o ea
        · rw [take_more ex, List.filterMap_append]
          refine da_app (da_up ((s3.ff.trans s4.ff).trans s5.ff) _ _ hd) ?_
          rw [List.filterMap_cons, fy]
          exact .cons e5 .nil
      | false =>
        rw [if_neg Bool.false_ne_true]
        refine ⟨z, F4, acc, (st.trans s3).trans s4, s4.nj D n3 (by rw [D3]; exact fun z => nomatch z), s4.hs _ _ D3, ?_⟩
        rw [take_more ex, List.filterMap_append, List.filterMap_cons, h2 rfl]
        rw [List.filterMap_nil, List.append_nil]
        exact da_up (s3.ff.trans s4.ff) _ _ hd
    · refine .inl ⟨y.2 (by omega), ?_⟩
      rw [List.take_of_length_le (by omega)] at hd
      exact q D acc F' H' (s.trans st) fD (by
        cases e1 : H D with
        | none => rfl
        | some o => rw [s.hs _ _ e1] at nD; cases nD) hD hd
/-- [e for x in xs] -/
theorem eo_map {vs : List Nat} (hi : ItD K w wi δ ds) (f : PD → PD) (hl : ds.length ≤ 100000)
    (hs : ∀ (k : Nat) (x : PD), ds[k]? = some x → ∃ is δ1, (∀ j ∈ is, j ∈ vs) ∧ TgD K w g is (wipeD δ vs) x δ1 ∧ EvD K w te δ1 (f x)) :
    EvO K w (tLc wi g tYes te vs) δ (ds.map f) := by
  have h := eo_lc (tt := tYes) (vs := vs) (te := te) (g := g) hi (fun x => some (f x)) hl fun k x e => by
    obtain ⟨is, δ1, h1, h2, h3⟩ := hs k x e
    exact ⟨is, δ1, true, h1, h2, ts_yes, fun _ => ⟨_, h3, rfl⟩, fun z => nomatch z⟩
  have e : (ds.filterMap fun x => some (f x)) = ds.map f := by rw [List.filterMap_eq_map']
  rw [e] at h
  exact h
/-! ## defs -/
def spS (K : PySem.W.Frag) (n : Nat) (R : List PD → PD → Prop) : Sp := fun vs H Q _ => ∃ F ds d, Fz F H ∧ DpAll K F vs ds ∧ ds.length = n ∧ R ds d ∧ ∀ v F2 H2, Stp m0 F H F2 H2 → Dp K F2 v d → Q v H2
def spO (K : PySem.W.Frag) (n : Nat) (R : List PD → List PD → Prop) : Sp := fun vs H Q _ => ∃ F ds es, Fz F H ∧ DpAll K F vs ds ∧ ds.length = n ∧ R ds es ∧
  ∀ p xs F2 H2, Stp m0 F H F2 H2 → F2 p = none → H p = none → H2 p = some (.lst xs) → DpAll K F2 xs es → Q (.ref p) H2
theorem len_S {n : Nat} {R : List PD → PD → Prop} : ∀ vs H Q E, spS K n R vs H Q E → vs.length = n := fun vs H Q E ⟨_, _, _, _, h, l, _⟩ => (da_len h).trans l
theorem len_O {n : Nat} {R : List PD → List PD → Prop} : ∀ vs H Q E, spO K n R vs H Q E → vs.length = n := fun vs H Q E ⟨_, _, _, _, h, l, _⟩ => (da_len h).trans l
def startD (n : Nat) (ds : List PD) : List Slot := ds.map .d ++ List.replicate (n - ds.length) .emp
theorem start_sig {N : List Str} {F H : Hp} {vs : List V} (h : DpAll K F vs ds) (s : Fz F H) : Sig K w F H m0 F H (L2.start N vs) (startD N.length ds) := by
  have l := da_len h
  have slot : ∀ (i : Nat) (s : Slot), (startD N.length ds)[i]? = some s → (∃ d, ds[i]? = some d ∧ s = .d d) ∨ s = .emp := fun i s e => by
    unfold startD at e
    by_cases q : i < ds.length
    · rw [List.getElem?_append_left (by rw [List.length_map]; exact q), List.getElem?_map] at e
      rw [List.getElem?_eq_getElem q] at e ⊢
      exact .inl ⟨_, rfl, (Option.some.inj e).symm⟩
    · rw [List.getElem?_append_right (by rw [List.length_map]; omega)] at e
      exact .inr (List.eq_of_mem_replicate (List.mem_of_getElem? e))
  refine ⟨.refl s.s, ?_, fun i s e => ?_, fun i j si sj v _ ei _ mi => ?_, fun i s p e ms => ?_, s.n⟩
  · unfold L2.start startD
    rw [List.length_append, List.length_append, List.length_map, List.length_map, List.length_replicate, List.length_replicate, l]
  · rcases slot i s e with ⟨d, e1, rfl⟩ | rfl
    · obtain ⟨v, h1, h2⟩ := da_get h e1
      refine ⟨v, ?_, h2⟩
      unfold L2.start
      rw [List.getElem?_append_left (by rw [List.length_map]; exact (List.getElem?_eq_some_iff.mp h1).1), List.getElem?_map, h1]
      rfl
    · exact trivial
  · rcases slot i si ei with ⟨d, e1, rfl⟩ | rfl <;> cases mi
  · rcases slot i s e with ⟨d, e1, rfl⟩ | rfl <;> cases ms
theorem run_spS {N : List Str} {F H : Hp} {vs : List V} {Q : VK} (s : Fz F H) (h : DpAll K F vs ds) (k : ∀ v F2 H2, Stp m0 F H F2 H2 → Dp K F2 v d → Q v H2)
    (r : Run K w t (startD N.length ds) (fun _ => d = .none) (fun _ r => r = .d d ∨ ∃ xs, r = .own xs ∧ d = .list xs) no1 no1) : t { nx := fun _ H' => Q .non H', rt := Q } (L2.start N vs) H :=
  r F H m0 F H _ (start_sig h s) _ (fun δ' F2 H2 σ2 e _ S => k _ F2 H2 S.st (by rw [e]; exact .non)) (fun δ' r v F2 H2 σ2 e f S R => by
    rcases e with rfl | ⟨xs, rfl, rfl⟩
    · exact k v F2 H2 S.st R
    · obtain ⟨p, vs, rfl, f1, h0, h1, d1⟩ := R
      refine k _ (upd F2 p (.lst vs)) H2 ⟨S.st.ff.trans (same_new f1), fun b o eb => ?_, S.st.hh, fun b eb nb => ?_, S.st.hn, S.st.nd⟩ (.lst (.inl (.inl upd_same)) (da_up (same_new f1) _ _ d1))
      · by_cases z : b = p
        · subst z; rw [upd_same] at eb; cases eb; exact h1
        · rw [upd_ne z] at eb; exact S.fh b o eb
      · rw [upd_ne (fun z => nb (by rw [z]; exact h0))]
        exact S.st.nj b eb nb) (fun _ _ _ _ z => z.elim) (fun _ _ _ _ z => z.elim)
theorem run_spO {N : List Str} {F H : Hp} {vs : List V} {Q : VK} (s : Fz F H) (h : DpAll K F vs ds) (k : ∀ p xs F2 H2, Stp m0 F H F2 H2 → F2 p = none → H p = none → H2 p = some (.lst xs) → DpAll K F2 xs es → Q (.ref p) H2)
    (r : Run K w t (startD N.length ds) no1 (fun _ r => r = .own es) no1 no1) : t { nx := fun _ H' => Q .non H', rt := Q } (L2.start N vs) H :=
  r F H m0 F H _ (start_sig h s) _ (fun _ _ _ _ z => z.elim) (fun δ' r v F2 H2 σ2 e f S R => by
    subst e
    obtain ⟨p, vs, rfl, f1, h0, h1, d1⟩ := R
    exact k p vs F2 H2 S.st f1 h0 h1 d1) (fun _ _ _ _ z => z.elim) (fun _ _ _ _ z => z.elim)
/-! calls -/
variable {n : Nat} {R : List PD → PD → Prop} {RO : List PD → List PD → Prop} {E : XK} {tz : TA}
theorem ev_call (h : EvA K w tz δ ds) (r : R ds d) (hl : ds.length = n := by rfl) : EvD K w (tCall (spS K n R) [] E tz) δ d := fun _ _ _ F H _ S Q q =>
  h _ _ _ _ _ _ S _ fun vs F2 H2 s e => ⟨F2, ds, d, (S.up s).fz, by rw [List.append_nil]; exact e, hl, r, fun v F3 H3 s3 e3 => q v F3 H3 (s.trans s3) e3⟩
theorem ev_callR (h : RdA K w tz δ ds) (r : R ds d) (sc : (scV d).isSome = true := by rfl) (hl : ds.length = n := by rfl) : EvD K w (tCall (spS K n R) [] E tz) δ d := fun _ _ _ F H _ S Q q =>
  h _ _ _ _ _ _ S _ fun vs F2 H2 s e => ⟨H2, ds, d, ⟨Same.refl H2, (S.up s).fz.n⟩, by rw [List.append_nil]; exact e, hl, r, fun v F3 H3 s3 e3 => q v F2 H3 (s.trans (.same s.fh s3.hs s3.nd)) (dp_sc e3 sc)⟩
theorem eo_call (h : EvA K w tz δ ds) (r : RO ds es) (hl : ds.length = n := by rfl) : EvO K w (tCall (spO K n RO) [] E tz) δ es := fun _ _ _ F H _ S Q q =>
  h _ _ _ _ _ _ S _ fun vs F2 H2 s e => ⟨F2, ds, es, (S.up s).fz, by rw [List.append_nil]; exact e, hl, r, fun p xs F3 H3 s3 f n e3 d3 => q p xs F3 H3 (s.trans s3) f (by
    cases e1 : H p with
    | none => rfl
    | some o => rw [s.hs _ _ e1] at n; cases n) e3 d3⟩
theorem eo_callR (h : RdA K w tz δ ds) (r : RO ds es) (sc : ∀ d ∈ es, (scV d).isSome = true) (hl : ds.length = n := by rfl) : EvO K w (tCall (spO K n RO) [] E tz) δ es := fun _ _ _ F H _ S Q q =>
  h _ _ _ _ _ _ S _ fun vs F2 H2 s e => ⟨H2, ds, es, ⟨Same.refl H2, (S.up s).fz.n⟩, by rw [List.append_nil]; exact e, hl, r, fun p xs F3 H3 s3 f n e3 d3 => q p xs F2 H3 (s.trans (.same s.fh s3.hs s3.nd)) (s.fh.free n) (by
    cases e1 : H p with
    | none => rfl
    | some o => rw [s.hs _ _ e1] at n; cases n) e3 (da_sc d3 sc)⟩
end
end MU

namespace MU
open PySem PySem.Spec L2
open PyProof.Rows (list_addW pow_int)
open PySem.W (codeIn)
/-! ## further rules of operators -/
def rCatL (K : PySem.W.Frag) : R2 := fun x y H Q => ∃ l b xs zs, x = .ref l ∧ y = .ref b ∧ SqL K H l xs ∧ SqL K H b zs ∧ xs.length + zs.length ≤ sizeLine ∧ ∀ p, H p = none → Q (.ref p) (upd H p (.lst (xs ++ zs)))
section
variable {X : Cx}
theorem op_catL : OpR X (binaryOp .Add) (rCatL X.K) := by
  intro pins s σ H x y v u Q I rx ry h
  obtain ⟨l, b, xs, zs, e1, e2, hs, hs2, hz, q⟩ := h
  subst e1; subst e2
  cases rx
  cases ry
  obtain ⟨is1, r1, ⟨⟨c1, d1, a1, t1⟩, n1, o1, q1, k1, w1⟩, _⟩ := I.list hs
  obtain ⟨is2, r2, ⟨⟨c2, d2, a2, t2⟩, n2, o2, q2, k2, w2⟩, _⟩ := I.list hs2
  simp only at q1 w1 q2 w2
  subst q1; subst w1; subst q2; subst w2
  have e : is1.toArray ++ is2.toArray = (is1 ++ is2).toArray := by simp
  have sz : is1.toArray.size + is2.toArray.size ≤ sizeLine := by rw [List.size_toArray, List.size_toArray, ← r1.length, ← r2.length]; exact hz
  refine concat_meets ⟨_, o1, rfl⟩ ⟨_, o2, rfl⟩ noFill_list_add seq_list_add PySem.F.slot_list_add PySem.F.entry_list_add (PySem.F.args_list_add_2 _ _) (list_addW l b is1.toArray is2.toArray n1 n2 d1 d2 t1 t2 sz) ⟨o1, o2, ?_⟩
  rw [e]
  exact ⟨.ref _, _, I.lnew (t' := s.toks) (r1.append r2) (by rw [List.length_append]; exact hz), rfl, q _ I.fresh⟩
/-- a power of great ints -/
def CPowW (i j : Int) : Prop := 0 ≤ j ∧ (Builtin.Int.intBits i : Int) * j ≤ 2 ^ 27
theorem op_powW : OpR X (binaryOp .Pow) (rI CPowW fun i j => .int (i ^ j.toNat)) := opI fun _ _ _ _ _ _ _ hc q => pow_int hc.1 hc.2 q
end
/-! ## {e} -/
def tSet1 (w : World) (te : TE) : TE := fun σ H Q => ∀ p, H p = none → te σ (upd H p (SetO w p (fun _ => false) 0)) fun x H1 => ∃ i, x = .int i ∧ H1 p = some (SetO w p (fun _ => false) 0) ∧ Q (.ref p) (upd H1 p (SetO w p (fun j => false || decide (j = i)) 1))
section
variable {X : Cx}
theorem newset_led {P : Program} {w : World} {A : Around} {E : Value → Shared → Prop} {s : Shared} {Q : Value → Shared → Prop}
    (h : ∀ o : Obj, SetR w (s.heap.push o) s.heap.objs.size (fun _ => false) 0 → Q (.ref s.heap.objs.size) { s with heap := s.heap.push o }) : wpAny (model P w) A (newSet (.type "set")) Q E s := by
  unfold newSet setsByText
  refine wpAny_bind (wpAny_bind
        (wpAny_askSetting (wpAny_pure ?_)))
  simp only [newObj]
  exact wpAny_bind (wpAny_alloc (wpAny_pure (h _ (setR_fresh w))))
theorem setadd_led {P : Program} {w : World} {A : Around} {E : Value → Shared → Prop} {s : Shared} {a : Addr} {S : Int → Bool} {n : Nat} {k : Int} {tk : Tok} {Q : Bool → Shared → Prop} (R : SetR w s.heap a S n) (room : n + 1 < scanBound)
    (hQ : ∀ h', Heap.SameBut a s.heap h' → SetR w h' a (fun j => S j || decide (j = k)) (if S k = true then n else n + 1) → Q (!S k) { s with heap := h', toks := s.toks + 1 }) : wpAny (model P w) A (setAdd a (.int k tk)) Q E s := by
  unfold setAdd
  refine wpAny_holding (wpAny_bind ((intKind P w).pyHash (intKind_is P w k tk) ?_))
  exact setR_add_hashed (s := { s with toks := s.toks + 1 }) R room hQ
theorem pe_set1 {e : Expr} {te : TE} {k : Nat} {pos : Pos} (hc : PySem.W.kdsCode X.K X.env.code = true) (he : PE X e te) (hp : [e].all PySem.W.kdsPlain = true := by rfl) (hr : displayRoad k [e] = .oneByOne := by rfl) : PE X (.Set [e] k pos) (tSet1 X.w te) := by
  refine ⟨fun pins s σ H Q I h => ?_⟩
  rw [arm_eval_Set]
  refine wpAny_bind (wpAny_standAt (wpAny_bind (PySem.W.kds_main I.kIn hc fun b => ?_)))
  have e0 : evalEach [e] X.env = [eval e X.env] := by
    rw [arm_evalEach_cons]
    rfl
  rw [PySem.W.kds_star [e] hp, List.map_map, hr, e0]
  show wpAny _ _ (setDisplay .oneByOne b [(false, do let v ← eval e X.env; standAt pos; pure v)]) _ _ _
  unfold setDisplay
  try dsimp only
  rw [if_neg (by decide)]
  refine wpAny_bind (newset_led fun o R => ?_)
  dsimp only
  have I1 := I.laid (t' := s.toks) (fun b u eb => Heap.get?_push_of_some o eb) (Nat.le_refl _) (setO_new (P := X.prog) (H := upd H s.heap.objs.size (SetO X.w s.heap.objs.size (fun _ => false) 0)) R)
  have h1 := h _ (I.hok.fresh (Nat.le_refl _))
  refine wpAny_bind (wpAny_holding (wpAny_bind ?_))
  show wpAny _ _ (evalAll [do let v ← eval e X.env; standAt pos; pure v]) _ _ _
  show wpAny _ _ ((eval e X.env >>= fun v => standAt pos >>= fun _ => pure v) >>= fun v => holding [v] (evalAll []) >>= fun r => pure (v :: r)) _ _ _
  refine wpAny_bind (wpAny_bind (thn (he.run pins _ σ _ _ I1 h1) fun u s1 h2 => ?_))
  obtain ⟨x, H1, I2, rx, i, ex, hs, q⟩ := h2
  subst ex
  obtain ⟨tk, rfl⟩ := rx
  refine wpAny_bind
        (wpAny_standAt (wpAny_pure ?_))
  refine wpAny_bind (wpAny_holding (wpAny_pure (wpAny_pure ?_)))
  refine wpAny_bind (wpAny_holding ?_)
  rw [List.forIn_cons]
  refine wpAny_bind (wpAny_bind (wpAny_bind (setadd_led (setO_get I2 hs) (by decide) fun h' sb R2 => wpAny_pure ?_)))
  dsimp only
  rw [List.forIn_nil]
  refine wpAny_pure ?_
  rw [if_neg (by decide)]
  have he2 : ∃ u, h'.get? s.heap.objs.size = some u := by
    have ⟨o, _, _, _, ho, _⟩ := R2
    exact ⟨o, ho⟩
  have I3 := I2.write (e := s.heap.objs.size) (t' := s1.toks + 1) (by rw [hs]; trivial) (.inl rfl) (fun b u hb hu => (sb.2 b hb).trans hu) he2 (setO_new (P := X.prog) (H := upd H1 s.heap.objs.size (SetO X.w s.heap.objs.size (fun j => false || decide (j = i)) 1)) R2)
  refine wpAny_pure (wpAny_bind ?_)
  show wpAny _ _ (forIn (([] : List (Bool × Sem Value))) PUnit.unit _) _ _ _
  rw [List.forIn_nil]
  exact wpAny_pure (wpAny_pure (wpAny_pure ⟨.ref _, _, I3, rfl, q⟩))
end
/-! a def's body that knows its code object -/
section
variable {P : Program} {w : World} {K : PySem.W.Frag} {mg : Str → Option Value} {base : Heap}
theorem kds_of_code {cd : Value} {q : Str} (h : PySem.W.codeIn K cd q = true) : PySem.W.kdsCode K cd = true := by
  unfold PySem.W.codeIn at h
  unfold PySem.W.kdsCode
  split at h
  · split at h
    · rename_i ho
      simp only [ho]
    · cases h
  · cases h
theorem fun_okC {x qual : Str} {st : Stmt} {f : Addr} {fd : FuncData} {N ps : List Str} {k : Nat} {sp : Sp} (F : Fun K x qual st f fd) (S : FnScope N ps (defScope st)) (len : ∀ vs H Q E, sp vs H Q E → vs.length = ps.length)
    (hb : ∀ (cdv : Value), PySem.W.codeIn K cdv qual = true → ∀ (A : Around) (outer : List Env) (s : Shared) (H : Hp) (vs : List V) (Q : VK) (E : XK), Room k (A.deeper (PyProof.Rows.envOfC qual (defScope st) s.heap.objs.size f cdv)) → sp vs H Q E →
      ∃ t, PSs (cxOf CX0 P w K mg base N qual (defScope st) f cdv A outer s H E).nox (defBody st) t ∧ t { nx := fun _ H' => Q .non H', rt := Q } (L2.start N vs) H) : FnOk P w K mg base CX0 (k + 1) f fd ps sp := by
  obtain ⟨_, _, _, _, _, _, cdv, _, _, z, lk, hcd⟩ := F.ex
  subst z
  refine fn_of lk hcd S len fun
        A outer s H vs Q E hr hsp => ?_
  have ⟨t, h, q⟩ := hb cdv hcd A outer s H vs Q E hr hsp
  exact ⟨t, h.nox, q⟩
end
theorem nF {p : Prop} (h : false = true) : p := by cases h
theorem nT {p : Prop} (h : true = false) : p := by cases h
/-! ## the same, by data -/
section
variable {K : PySem.W.Frag} {w : World} {δ δ' : List Slot} {te ta tb : TE} {tt : TT} {t u : TS} {d x y : PD} {ds es xs ys : List PD} {nx nx' mid bk ct : PN} {rt : List Slot → Ret → Prop} {g : TG} {wi : TI}
/-- a list to be read whose items may be kept -/
def SqD (K : PySem.W.Frag) (w : World) (te : TE) (δ : List Slot) (ds : List PD) : Prop := ∀ F0 H0 m F H σ, Sig K w F0 H0 m F H σ δ → ∀ Q : VK, (∀ a vs F2 H2, Stp m0 F H F2 H2 → SqL K H2 a vs → DpAll K F2 vs ds → Q (.ref a) H2) → te σ H Q
theorem EvD.sq (h : EvD K w te δ (.list ds)) : SqD K w te δ ds := fun _ _ _ F H σ S Q q => h _ _ _ _ _ _ S _ fun v F2 H2 s e => by
  obtain ⟨a, vs, rfl, hs, hd⟩ := dp_list e
  exact q a vs F2 H2 s (s.fh.seq hs) hd
theorem EvO.sq (h : EvO K w te δ ds) : SqD K w te δ ds := fun _ _ _ F H σ S Q q => h _ _ _ _ _ _ S _ fun p vs F2 H2 s f n e a => q p vs F2 H2 s (.inl (.inl e)) a
theorem sq_own {i : Nat} {b : Bool} (hi : δ[i]? = some (.own b ds)) : SqD K w (tVar i) δ ds := fun _ _ _ F H σ S Q q => by
  obtain ⟨p, vs, e1, f1, h1, d1⟩ := S.own hi
  exact ⟨_, e1, q p vs F H (.refl S.fh) (.inl (.inl h1)) d1⟩
theorem RdD.sq (h : RdD K w te δ (.list ds)) (sc : ∀ d ∈ ds, (scV d).isSome = true) : SqD K w te δ ds := fun _ _ _ F H σ S Q q => h _ _ _ _ _ _ S _ fun v F2 H2 s e => by
  obtain ⟨a, vs, rfl, hs, hd⟩ := dp_list e
  exact q a vs F2 H2 s hs (da_sc hd sc)
theorem SqD.rd (h : SqD K w te δ ds) : RdD K w te δ (.list ds) := fun _ _ _ F H σ S Q q => h _ _ _ _ _ _ S _ fun a vs F2 H2 s hs hd => q _ F2 H2 s (.lst hs (da_up s.fh _ _ hd))
instance : CoeOut (EvD K w te δ d) (RdD K w te δ d) := ⟨EvD.rd⟩
instance : CoeOut (EvO K w te δ ds) (EvD K w te δ (.list ds)) := ⟨EvO.ev⟩
instance : CoeOut (EvO K w te δ ds) (RdD K w te δ (.list ds)) := ⟨EvO.rd⟩
instance : CoeOut (EvO K w te δ ds) (SqD K w te δ ds) := ⟨EvO.sq⟩
instance : CoeOut (EvD K w te δ (.list ds)) (SqD K w te δ ds) := ⟨EvD.sq⟩
theorem rd_var {i : Nat} (h : δ[i]? = some (.d d)) : RdD K w (tVar i) δ d := (ev_var h).rd
theorem rd_int {i : Int} : RdD K w (tC (.int i)) δ (.int i) := ev_int.rd
theorem rd_non : RdD K w (tC .non) δ .none := ev_non.rd
theorem rd_bl {b : Bool} : RdD K w (tC (.bl b)) δ (.bool b) := ev_bl.rd
theorem rd_str {z : Str} : RdD K w (tC (.str z)) δ (.str z) := ev_str.rd
theorem run_no {b : Bool} (h : TsB K w tt δ b) (e : b = false) (h2 : Run K w u δ nx rt bk ct) : Run K w (tIfS tt t u) δ nx rt bk ct := run_if h (fun z => by rw [e] at z; cases z) fun _ => h2
theorem run_yes {b : Bool} (h : TsB K w tt δ b) (e : b = true) (h2 : Run K w t δ nx rt bk ct) : Run K w (tIfS tt t u) δ nx rt bk ct := run_if h (fun _ => h2) fun z => by rw [e] at z; cases z
/-- a statement behind which the slots are known -/
theorem run_seq1 {δ1 : List Slot} (h : Run K w t δ (fun z => z = δ1) rt bk ct) (h2 : Run K w u δ1 nx rt bk ct) : Run K w (tSeq t u) δ nx rt bk ct := run_seq h fun δ' e => by rw [e]; exact h2
theorem new_eo {F H F2 H2 : Hp} {p : Addr} {vs : List V} {Q : VK} (s : Stp m0 F H F2 H2) (hp : H2 p = none) (hd : DpAll K F2 vs ds)
    (q : ∀ p vs F2 H2, Stp m0 F H F2 H2 → F2 p = none → H p = none → H2 p = some (.lst vs) → DpAll K F2 vs ds → Q (.ref p) H2) : Q (.ref p) (upd H2 p (.lst vs)) :=
  q p vs F2 _ (s.trans (.mk1 s.fh hp)) (s.fh.free hp) (by
    cases e1 : H p with
    | none => rfl
    | some o => rw [s.hs _ _ e1] at hp; cases hp) upd_same hd
theorem eo_cat (ha : SqD K w ta δ xs) (hb : SqD K w tb δ ys) (hl : xs.length + ys.length ≤ 100000) : EvO K w (tOp (rCatL K) ta tb) δ (xs ++ ys) := fun _ _ _ F H σ S Q q =>
  ha _ _ _ _ _ _ S _ fun a vs F2 H2 s hs hd => hb _ _ _ _ _ _ (S.up s) _ fun b us F3 H3 s2 hs2 hd2 =>
    ⟨a, b, vs, us, rfl, rfl, s2.hs.seq hs, hs2, by rw [da_len hd, da_len hd2]; exact small_line hl, fun p hp => new_eo (s.trans s2) hp (da_app (da_up s2.ff _ _ hd) hd2) q⟩
theorem ev_ixO {i : Int} (ha : SqD K w ta δ ds) (hb : RdD K w tb δ (.int i)) (e : atI ds i = some d) : EvD K w (tOp (rIxL K) ta tb) δ d := fun _ _ _ F H _ S Q q =>
  ha _ _ _ _ _ _ S _ fun a vs F2 H2 s hs hd => hb _ _ _ _ _ _ (S.up s) _ fun u F3 H3 s2 e2 => by
    obtain ⟨v, g1, g2⟩ := at_da (da_up s2.ff _ _ hd) e
    exact ⟨a, vs, i, v, rfl, dp_int e2, s2.hs.seq hs, g1, q v F3 H3 (s.trans s2) g2⟩
theorem ev_catT (ha : EvD K w ta δ (.tuple xs)) (hb : EvD K w tb δ (.tuple ys)) (hl : xs.length + ys.length ≤ 100000) : EvD K w (tOp (rCatN K) ta tb) δ (.tuple (xs ++ ys)) := fun _ _ _ F H σ S Q q =>
  ha _ _ _ _ _ _ S _ fun v F2 H2 s e => hb _ _ _ _ _ _ (S.up s) _ fun u F3 H3 s2 e2 => by
    obtain ⟨a, vs, rfl, hs, hd⟩ := dp_tuple (dp_up s2.ff _ _ e)
    obtain ⟨b, us, rfl, hs2, hd2⟩ := dp_tuple e2
    refine ⟨a, b, vs, us, rfl, rfl, sqt_up s2.fh hs, sqt_up s2.fh hs2, by rw [da_len hd, da_len hd2]; exact small_line hl, fun z => ?_, fun z z2 => ?_, fun z z2 p hp o ho => ?_⟩
    · subst z
      cases hd
      exact q _ F3 H3 (s.trans s2) e2
    · subst z2
      cases hd2
      rw [List.append_nil] at q
      exact q _ F3 H3 (s.trans s2) (dp_up s2.ff _ _ e)
    · exact q _ (upd F3 p (.frz o (.tup (vs ++ us)))) _ ((s.trans s2).trans (.frz s2.fh hp (ok_tup ho))) (.tup (.inl (.inr ⟨_, upd_same⟩)) (da_up (same_new (s2.fh.free hp)) _ _ (da_app hd hd2)))
abbrev rLstOf (K : PySem.W.Frag) : List V → Hp → VK → Prop := fun xs H Q => ∃ p ys, xs = [.ref p] ∧ (SqL K H p ys ∨ SqT K H p ys) ∧ ∀ l, H l = none → Q (.ref l) (upd H l (.lst ys))
theorem ev_tupleOf (ha : SqD K w ta δ ds) : EvD K w (tCB (rTupOfN K) (tCons ta tNil)) δ (.tuple ds) := fun _ _ _ F H σ S Q q =>
  ha _ _ _ _ _ _ S _ fun a vs F2 H2 s hs hd => ⟨a, vs, rfl, .inl ⟨hs, fun p hp o ho => q _ (upd F2 p (.frz o (.tup vs))) _ (s.trans (.frz s.fh hp (ok_tup ho))) (.tup (.inl (.inr ⟨_, upd_same⟩)) (da_up (same_new (s.fh.free hp)) _ _ hd))⟩⟩
theorem ev_tupleT (ha : EvD K w ta δ (.tuple ds)) : EvD K w (tCB (rTupOfN K) (tCons ta tNil)) δ (.tuple ds) := fun _ _ _ F H σ S Q q =>
  ha _ _ _ _ _ _ S _ fun v F2 H2 s e => by
    obtain ⟨a, vs, rfl, hs, hd⟩ := dp_tuple e
    exact ⟨a, vs, rfl, .inr ⟨sqt_up s.fh hs, q _ F2 H2 s e⟩⟩
theorem eo_listOf (ha : SqD K w ta δ ds) : EvO K w (tCB (rLstOf K) (tCons ta tNil)) δ ds := fun _ _ _ F H σ S Q q =>
  ha _ _ _ _ _ _ S _ fun a vs F2 H2 s hs hd => ⟨a, vs, rfl, .inl hs, fun p hp => new_eo s hp hd q⟩
theorem eo_listT (ha : EvD K w ta δ (.tuple ds)) : EvO K w (tCB (rLstOf K) (tCons ta tNil)) δ ds := fun _ _ _ F H σ S Q q =>
  ha _ _ _ _ _ _ S _ fun v F2 H2 s e => by
    obtain ⟨a, vs, rfl, hs, hd⟩ := dp_tuple e
    exact ⟨a, vs, rfl, .inr (sqt_up s.fh hs), fun p hp => new_eo s hp hd q⟩
/-! slices -/
def PtD (K : PySem.W.Frag) (w : World) (to : TO) (δ : List Slot) (o : Option Int) : Prop := ∀ F0 H0 m F H σ, Sig K w F0 H0 m F H σ δ → ∀ Q : Option Int → Hp → Prop, (∀ F2 H2, Stp m0 F H F2 H2 → Q o H2) → to σ H Q
theorem pt_no : PtD K w tNoPart δ none := fun _ _ _ F H σ S Q q => q F H (.refl S.fh)
theorem pt_yes {i : Int} (h : RdD K w te δ (.int i)) : PtD K w (tPart te) δ (some i) := fun _ _ _ F H σ S Q q => h _ _ _ _ _ _ S _ fun v F2 H2 s e => ⟨i, dp_int e, q F2 H2 s⟩
def cutD (xs : List PD) (lo hi : Option Int) : List PD := (xs.drop (HT.sIx xs.length 0 lo)).take (HT.sIx xs.length xs.length hi - HT.sIx xs.length 0 lo)
theorem da_cut {H : Hp} {vs : List V} {lo hi : Option Int} (h : DpAll K H vs ds) : DpAll K H (cutV vs lo hi) (cutD ds lo hi) := by
  unfold cutV cutD
  rw [da_len h]
  exact da_take _ (da_drop _ h)
theorem eo_sl {tl th : TO} {lo hi : Option Int} (ha : SqD K w ta δ ds) (h1 : PtD K w tl δ lo) (h2 : PtD K w th δ hi) : EvO K w (tSl (rSlL K) ta tl th) δ (cutD ds lo hi) := fun _ _ _ F H σ S Q q =>
  ha _ _ _ _ _ _ S _ fun a vs F2 H2 s hs hd => h1 _ _ _ _ _ _ (S.up s) _ fun F3 H3 s2 => h2 _ _ _ _ _ _ ((S.up s).up s2) _ fun F4 H4 s3 =>
    ⟨a, vs, rfl, s3.hs.seq (s2.hs.seq hs), fun p hp => new_eo ((s.trans s2).trans s3) hp (da_cut (da_up (s2.ff.trans s3.ff) _ _ hd)) q⟩
theorem ev_slT {tl th : TO} {lo hi : Option Int} (ha : EvD K w ta δ (.tuple ds)) (h1 : PtD K w tl δ lo) (h2 : PtD K w th δ hi) : EvD K w (tSl (rSlN K) ta tl th) δ (.tuple (cutD ds lo hi)) := fun _ _ _ F H σ S Q q =>
  ha _ _ _ _ _ _ S _ fun v F2 H2 s e => h1 _ _ _ _ _ _ (S.up s) _ fun F3 H3 s2 => h2 _ _ _ _ _ _ ((S.up s).up s2) _ fun F4 H4 s3 => by
    have e4 := dp_up (s2.ff.trans s3.ff) _ _ e
    obtain ⟨a, vs, rfl, hs, hd⟩ := dp_tuple e4
    have l := da_len hd
    refine ⟨a, vs, rfl, sqt_up s3.fh hs, fun z => ?_, fun z p hp o ho => ?_⟩
    · have ec : cutD ds lo hi = ds := by
        unfold cutD
        rw [← l, z.1, z.2, List.drop_zero, Nat.sub_zero, l, List.take_length]
      rw [ec] at q
      exact q _ F4 H4 ((s.trans s2).trans s3) e4
    · exact q _ (upd F4 p (.frz o (.tup (cutV vs lo hi)))) _ (((s.trans s2).trans s3).trans (.frz s3.fh hp (ok_tup ho))) (.tup (.inl (.inr ⟨_, upd_same⟩)) (da_up (same_new (s3.fh.free hp)) _ _ (da_cut hd)))
/-! sets of ints -/
theorem run_set1 {i : Nat} {k : Int} (h : EvD K w te δ (.int k)) (n : nx (δ.set i (.set (fun j => decide (j = k)) 1))) : Run K w (tAsg (tSet1 w te) (gName i)) δ nx rt bk ct := fun F0 H0 m F H σ S D a _ _ _ => fun p hp => by
  have s1 : Stp m0 F H F (upd H p (SetO w p (fun _ => false) 0)) := .mk1 S.fh hp
  refine h _ _ _ _ _ _ (S.up s1) _ fun v F2 H2 s e => ?_
  have h2 : H2 p = some (SetO w p (fun _ => false) 0) := s.hs _ _ upd_same
  have f2 : F2 p = none := s.nj p (S.fh.free hp) (by rw [upd_same]; exact fun z => nomatch z)
  refine ⟨k, dp_int e, h2, ?_⟩
  have e2 : (fun j => false || decide (j = k)) = fun j : Int => decide (j = k) := funext fun j => Bool.false_or _
  rw [e2]
  have st : Stp m0 F H F2 (upd H2 p (SetO w p (fun j => decide (j = k)) 1)) := ⟨s.ff, fun b o eb => by
      rw [upd_ne (ne_of_none eb f2)]
      exact s.fh b o eb, fun b o _ eb => by
      rw [upd_ne (ne_of_none eb hp)]
      exact s.hs b o (same_new hp b o eb), fun b eb nb => s.nj b eb (up_some nb), fun b nb => up_some (s.hn b (up_some nb)), fun nd => (s.nd (nd.put ok_seto)).put ok_seto⟩
  refine a _ F2 _ _ n s.ff ((S.up st).setM i ⟨p, rfl, f2, upd_same⟩ rfl (new_loc S hp) fun j sj _ ej mj eq => ?_)
  obtain ⟨p', e1, _⟩ := S.ref ej mj
  rw [e1] at eq
  cases eq
  have q := S.ok j sj ej
  rw [e1] at q
  cases sj with
  | emp => cases mj
  | d x => cases mj
  | own b xs => obtain ⟨_, _, h1, _, h3, _⟩ := q; cases h1; rw [hp] at h3; cases h3
  | gen b' n => obtain ⟨_, h1, _, _, _, _, h3, _⟩ := q; cases h1; rw [hp] at h3; cases h3
  | set S' n => obtain ⟨_, h1, _, h3⟩ := q; cases h1; rw [hp] at h3; cases h3
  | ob o9 => obtain ⟨_, h1, _, h3⟩ := q; cases h1; rw [hp] at h3; cases h3
abbrev rSet0' (w : World) : List V → Hp → VK → Prop := rSet0 w
theorem run_set0 {i : Nat} (n : nx (δ.set i (.set (fun _ => false) 0))) : Run K w (tAsg (tCB (rSet0 w) tNil) (gName i)) δ nx rt bk ct := fun F0 H0 m F H σ S D a _ _ _ => ⟨rfl, fun p hp => by
  have s1 : Stp m0 F H F (upd H p (SetO w p (fun _ => false) 0)) := .mk1 S.fh hp
  refine a _ F _ _ n (Same.refl F) ((S.up s1).setM i ⟨p, rfl, S.fh.free hp, upd_same⟩ rfl (new_loc S hp) fun j sj _ ej mj eq => ?_)
  obtain ⟨p', e1, _⟩ := S.ref ej mj
  rw [e1] at eq
  cases eq
  have q := S.ok j sj ej
  rw [e1] at q
  cases sj with
  | emp => cases mj
  | d x => cases mj
  | own b xs => obtain ⟨_, _, h1, _, h3, _⟩ := q; cases h1; rw [hp] at h3; cases h3
  | gen b' n => obtain ⟨_, h1, _, _, _, _, h3, _⟩ := q; cases h1; rw [hp] at h3; cases h3
  | set S' n => obtain ⟨_, h1, _, h3⟩ := q; cases h1; rw [hp] at h3; cases h3
  | ob o9 => obtain ⟨_, h1, _, h3⟩ := q; cases h1; rw [hp] at h3; cases h3⟩
theorem Sig.aset {F0 H0 F H : Hp} {m : Addr → Prop} {σ : L2.St} (S : Sig K w F0 H0 m F H σ δ) {i : Nat} {S' : Int → Bool} {n : Nat} (hi : δ[i]? = some (.set S' n)) : ∃ p, σ[i]? = some (some (.ref p)) ∧ F p = none ∧ H p = some (SetO w p S' n) := by
  obtain ⟨p, e, f⟩ := S.ref hi rfl
  obtain ⟨p', h1, h2, h3⟩ := S.ok i _ hi
  rw [e] at h1
  cases h1
  exact ⟨p, e, f, h3⟩
theorem run_sadd {i : Nat} {k : Int} {S' : Int → Bool} {n : Nat} (hi : δ[i]? = some (.set S' n)) (h : EvD K w te δ (.int k)) (hn : n < 4000) (c : nx (δ.set i (.set (fun j => S' j || decide (j = k)) (if S' k = true then n else n + 1)))) :
    Run K w (tDrop (tSAdd w (tVar i) (tCons te tNil))) δ nx rt bk ct := fun _ _ _ F H σ S D a _ _ _ => by
  obtain ⟨p, e1, f1, h1⟩ := S.aset hi
  refine ⟨_, e1, ⟨p, S', n, rfl, h1⟩, h _ _ _ _ _ _ S _ fun v F2 H2 s e => ?_⟩
  have f2 : F2 p = none := s.nj p f1 (by rw [h1]; exact fun z => nomatch z)
  have h2 : H2 p = some (SetO w p S' n) := s.hs _ _ h1
  refine ⟨p, k, S', n, rfl, by rw [dp_int e], h2, Nat.lt_of_lt_of_le (Nat.succ_lt_succ hn) (by decide), ?_⟩
  exact a _ F2 _ σ c s.ff ((S.up s).chg hi rfl e1 f2 (by rw [h2]; exact fun z => nomatch z) ⟨p, rfl, f2, upd_same⟩ rfl rfl)
theorem ev_sin {i : Nat} {k : Int} {S' : Int → Bool} {n : Nat} (hi : δ[i]? = some (.set S' n)) (h : RdD K w te δ (.int k)) : EvD K w (tOp (rSIn w) te (tVar i)) δ (.bool (S' k)) := fun _ _ _ F H σ S Q q =>
  h _ _ _ _ _ _ S _ fun v F2 H2 s e => by
    obtain ⟨p, e1, f1, h1⟩ := (S.up s).aset hi
    exact ⟨_, e1, k, p, S', n, dp_int e, rfl, h1, q _ F2 H2 s (.bl _)⟩
theorem ev_snotin {i : Nat} {k : Int} {S' : Int → Bool} {n : Nat} (hi : δ[i]? = some (.set S' n)) (h : RdD K w te δ (.int k)) : EvD K w (tOp (rSNotIn w) te (tVar i)) δ (.bool (!S' k)) := fun _ _ _ F H σ S Q q =>
  h _ _ _ _ _ _ S _ fun v F2 H2 s e => by
    obtain ⟨p, e1, f1, h1⟩ := (S.up s).aset hi
    exact ⟨_, e1, k, p, S', n, dp_int e, rfl, h1, q _ F2 H2 s (.bl _)⟩
theorem da_ints {H : Hp} : ∀ ns : List Int, DpAll K H (ns.map V.int) (ns.map PyData.int)
  | [] => .nil
  | n :: ns => .cons (.int n) (da_ints ns)
theorem ints_da {H : Hp} : ∀ {ns : List Int} {vs : List V}, DpAll K H vs (ns.map PyData.int) → vs = ns.map V.int
  | [], _, h => by cases h; rfl
  | n :: ns, _, h => by
    cases h with
    | cons r t => cases r; rw [ints_da t]; rfl
/-- sorted(s), s a set of ints of one's own: the answer is the one ascending list -/
theorem eo_sortedSet {i : Nat} {S' : Int → Bool} {n : Nat} {ns : List Int} (hi : δ[i]? = some (.set S' n)) (hn : n < 64) (h1 : ns.Pairwise (· < ·)) (h2 : ∀ k : Int, k ∈ ns ↔ S' k = true) : EvO K w (tCB (rSortedSet w) (tCons (tVar i) tNil)) δ (ns.map .int) := fun _ _ _ F H σ S Q q => by
  obtain ⟨p, e1, f1, hp⟩ := S.aset hi
  refine ⟨_, e1, p, S', n, rfl, hp, hn, fun ms p' o1 o2 o3 hp' => ?_⟩
  have e : ms = ns := List.Perm.eq_of_pairwise (le := (· < ·)) (fun a b _ _ h h' => absurd (Int.lt_trans h h') (Int.lt_irrefl _)) o1 h1 ((List.perm_ext_iff_of_nodup (o1.imp fun h => Int.ne_of_lt h) (h1.imp fun h => Int.ne_of_lt h)).mpr fun k => (o2 k).trans (h2 k).symm)
  subst e
  exact new_eo (.refl S.fh) hp' (da_ints ms) q
/-! sorted, max, min, sum of lists of ints -/
theorem eo_sorted {ns ms : List Int} (h : RdD K w te δ (.list (ns.map .int))) (hp : ms.Perm ns) (hs : ms.Pairwise (· ≤ ·)) : EvO K w (tCB (rSortedI K) (tCons te tNil)) δ (ms.map .int) := fun _ _ _ F H σ S Q q =>
  h _ _ _ _ _ _ S _ fun v F2 H2 s e => by
    obtain ⟨a, vs, rfl, hq, hd⟩ := dp_list e
    rw [ints_da hd] at hq
    refine ⟨a, ns, rfl, hq, fun ns' p o1 o2 hp' => ?_⟩
    have e : ns' = ms := List.Perm.eq_of_pairwise (le := (· ≤ ·)) (fun a b _ _ h h' => Int.le_antisymm h h') o2 hs (o1.trans hp.symm)
    subst e
    exact new_eo s hp' (da_ints ns') q
theorem ev_sum {ns : List Int} (h : RdD K w te δ (.list (ns.map .int))) : EvD K w (tCB (rSum K) (tCons te tNil)) δ (.int ns.sum) :=
  rd_call (ra_cons h ra_nil) (fun H => .int _) fun H vs h Q q => by
    obtain ⟨v, rfl, r⟩ := da1 h
    obtain ⟨a, us, rfl, hq, hd⟩ := dp_list r
    rw [ints_da hd] at hq
    exact ⟨a, ns, rfl, hq, q⟩
end
end MU

namespace MU
open PySem PySem.Spec L2
/-! ## a drawing list that turns -/
abbrev gmax : Int := 1000000000000
def spG (K : PySem.W.Frag) (l : Nat) (k : Int) (R : List PD → (PD → Prop) → Prop) : Sp := fun vs H Q _ => ∃ F g n us ds P, vs = .ref g :: us ∧ Fz F H ∧ F g = none ∧ GenAt H g n ∧ n + k ≤ gmax ∧ DpAll K F us ds ∧ ds.length + 1 = l ∧ R ds P ∧
  ∀ d v F2 H2, P d → Stp (fun a => a = g) F H F2 H2 → GenAt H2 g (n + k) → Dp K F2 v d → Q v H2
theorem len_G {K : PySem.W.Frag} {l : Nat} {k : Int} {R : List PD → (PD → Prop) → Prop} : ∀ vs H Q E, spG K l k R vs H Q E → vs.length = l := fun vs H Q E ⟨_, _, _, _, _, _, e, _, _, _, _, h, z, _⟩ => by rw [e, List.length_cons, da_len h, z]
section
variable {K : PySem.W.Frag} {w : World} {δ δ' : List Slot} {te ta tb : TE} {tt : TT} {t u : TS} {tz : TA} {d x y : PD} {ds es xs ys : List PD} {nx nx' mid bk ct : PN} {rt : List Slot → Ret → Prop} {g : TG} {wi : TI} {P P1 P2 : PD → Prop} {PA PB : List PD → Prop} {i : Nat} {b : Bool} {n n1 n2 : Int}
/-- the drawing list at g has turned -/
theorem Sig.turn {F0 H0 F H F2 H2 : Hp} {m : Addr → Prop} {σ : L2.St} {g : Addr} (S : Sig K w F0 H0 m F H σ (δ.set i (.gen b n))) (hi : i < δ.length) (hg : σ[i]? = some (some (.ref g))) (st : Stp (fun a => a = g) F H F2 H2) (G : GenAt H2 g n2) :
    Sig K w F0 H0 m F2 H2 σ (δ.set i (.gen b n2)) := by
  have e0 : (δ.set i (.gen b n))[i]? = some (.gen b n) := List.getElem?_set_self hi
  have fr := S.fr i _ g e0 rfl hg
  have F1 : F g = none := by
    obtain ⟨p, e, f⟩ := S.ref e0 rfl
    rw [hg] at e
    cases e
    exact f
  have Hg : H g ≠ none := by
    obtain ⟨p, e, f, a, s, c, h, _⟩ := S.ok i _ e0
    rw [hg] at e
    cases e
    rw [h]
    exact fun z => nomatch z
  have F2g : F2 g = none := st.nj g F1 Hg
  have slot : ∀ (j : Nat) (s : Slot), i ≠ j → (δ.set i (.gen b n2))[j]? = some s → (δ.set i (.gen b n))[j]? = some s := fun j s z e => by
    rw [List.getElem?_set_ne z] at e ⊢
    exact e
  have self : (δ.set i (.gen b n2))[i]? = some (.gen b n2) := List.getElem?_set_self hi
  refine ⟨⟨S.st.ff.trans st.ff, st.fh, fun a o na e => ?_, fun a e na => st.nj a (S.st.nj a e na) (S.st.hn a na), fun a na => st.hn a (S.st.hn a na), fun nd => st.nd (S.st.nd nd)⟩, by have := S.len; rw [List.length_set] at this ⊢; exact this, fun j s e => ?_, fun j k si sj v jk ej ek mj mk => ?_, fun j s p e ms ep => ?_, S.n0⟩
  · refine st.hh a o (fun z => ?_) (S.st.hh a o na e)
    subst z
    cases q : b with
    | false => exact na (fr.2 (by rw [q]; rfl))
    | true => rw [fr.1 (by rw [q]; rfl)] at e; cases e
  · by_cases z : i = j
    · subst z
      rw [self] at e
      cases e
      rw [hg]
      exact ⟨g, rfl, F2g, G⟩
    · have e' := slot j s z e
      have q := S.ok j s e'
      cases s with
      | emp => exact trivial
      | d x => obtain ⟨v, h1, h2⟩ := q; exact ⟨v, h1, dp_up st.ff _ _ h2⟩
      | own b xs =>
        obtain ⟨p, vs, h1, h2, h3, h4⟩ := q
        have ne : p ≠ g := fun y => by
          subst y
          refine S.dis i j _ _ _ z e0 e' rfl rfl hg ?_
          cases e1 : σ[j]? with
          | none => rw [e1] at h1; cases h1
          | some o => rw [e1] at h1; exact congrArg some h1
        exact ⟨p, vs, h1, st.nj p h2 (by rw [h3]; exact fun z => nomatch z), st.hh p _ ne h3, da_up st.ff _ _ h4⟩
      | gen b' n' =>
        obtain ⟨p, h1, h2, a, b, c, h3, h4⟩ := q
        have ne : p ≠ g := fun y => by
          subst y
          refine S.dis i j _ _ _ z e0 e' rfl rfl hg ?_
          cases e1 : σ[j]? with
          | none => rw [e1] at h1; cases h1
          | some o => rw [e1] at h1; exact congrArg some h1
        exact ⟨p, h1, st.nj p h2 (by rw [h3]; exact fun z => nomatch z), a, b, c, st.hh p _ ne h3, h4⟩
      | set S' n' =>
        obtain ⟨p, h1, h2, h3⟩ := q
        have ne : p ≠ g := fun y => by
          subst y
          refine S.dis i j _ _ _ z e0 e' rfl rfl hg ?_
          cases e1 : σ[j]? with
          | none => rw [e1] at h1; cases h1
          | some o => rw [e1] at h1; exact congrArg some h1
        exact ⟨p, h1, st.nj p h2 (by rw [h3]; exact fun z => nomatch z), st.hh p _ ne h3⟩
      | ob o9 =>
        obtain ⟨p, h1, h2, h3⟩ := q
        have ne : p ≠ g := fun y => by
          subst y
          refine S.dis i j _ _ _ z e0 e' rfl rfl hg ?_
          cases e1 : σ[j]? with
          | none => rw [e1] at h1; cases h1
          | some o => rw [e1] at h1; exact congrArg some h1
        exact ⟨p, h1, st.nj p h2 (by rw [h3]; exact fun z => nomatch z), st.hh p _ ne h3⟩
  · have mtx : ∀ (l : Nat) (sl : Slot), (δ.set i (.gen b n2))[l]? = some sl → sl.mt = true → ∃ s2, (δ.set i (.gen b n))[l]? = some s2 ∧ s2.mt = true := fun l sl e1 e2 => by
      by_cases z : i = l
      · subst z; exact ⟨_, e0, rfl⟩
      · exact ⟨sl, slot l sl z e1, e2⟩
    obtain ⟨s1, a1, b1⟩ := mtx j si ej mj
    obtain ⟨s2, a2, b2⟩ := mtx k sj ek mk
    exact S.dis j k s1 s2 v jk a1 a2 b1 b2
  · by_cases z : i = j
    · subst z
      rw [self] at e
      cases e
      have q := S.fr i (.gen b n) p e0 rfl ep
      exact q
    · exact S.fr j s p (slot j s z e) ms ep
/-- an expression that draws: what it may be worth -/
def EvG (K : PySem.W.Frag) (w : World) (te : TE) (δ : List Slot) (i : Nat) (b : Bool) (n n2 : Int) (P : PD → Prop) : Prop := ∀ F0 H0 m F H σ g, Sig K w F0 H0 m F H σ (δ.set i (.gen b n)) → i < δ.length → σ[i]? = some (some (.ref g)) →
  ∀ Q : VK, (∀ d v F2 H2, P d → Stp (fun a => a = g) F H F2 H2 → Sig K w F0 H0 m F2 H2 σ (δ.set i (.gen b n2)) → Dp K F2 v d → Q v H2) → te σ H Q
def EvGA (K : PySem.W.Frag) (w : World) (tz : TA) (δ : List Slot) (i : Nat) (b : Bool) (n n2 : Int) (P : List PD → Prop) : Prop := ∀ F0 H0 m F H σ g, Sig K w F0 H0 m F H σ (δ.set i (.gen b n)) → i < δ.length → σ[i]? = some (some (.ref g)) →
  ∀ Q : List V → Hp → Prop, (∀ ds vs F2 H2, P ds → Stp (fun a => a = g) F H F2 H2 → Sig K w F0 H0 m F2 H2 σ (δ.set i (.gen b n2)) → DpAll K F2 vs ds → Q vs H2) → tz σ H Q
def TsG (K : PySem.W.Frag) (w : World) (tt : TT) (δ : List Slot) (i : Nat) (b : Bool) (n n2 : Int) (P : Bool → Prop) : Prop := ∀ F0 H0 m F H σ g, Sig K w F0 H0 m F H σ (δ.set i (.gen b n)) → i < δ.length → σ[i]? = some (some (.ref g)) →
  ∀ Q : Bool → Hp → Prop, (∀ bb F2 H2, P bb → Stp (fun a => a = g) F H F2 H2 → Sig K w F0 H0 m F2 H2 σ (δ.set i (.gen b n2)) → Q bb H2) → tt σ H Q
theorem EvG.imp {P' : PD → Prop} (h : EvG K w te δ i b n n2 P) (p : ∀ d, P d → P' d) : EvG K w te δ i b n n2 P' := fun _ _ _ _ _ _ _ S hi hg Q q => h _ _ _ _ _ _ _ S hi hg Q fun d v F2 H2 a => q d v F2 H2 (p d a)
theorem eg_pure (h : EvD K w te (δ.set i (.gen b n)) d) : EvG K w te δ i b n n (fun z => z = d) := fun _ _ _ F H σ g S hi hg Q q => h _ _ _ _ _ _ S _ fun v F2 H2 s e => q d v F2 H2 rfl s.wk (S.up s) e
theorem ega_pure (h : EvA K w tz (δ.set i (.gen b n)) ds) : EvGA K w tz δ i b n n (fun z => z = ds) := fun _ _ _ F H σ g S hi hg Q q => h _ _ _ _ _ _ S _ fun v F2 H2 s e => q ds v F2 H2 rfl s.wk (S.up s) e
theorem ega_nil : EvGA K w tNil δ i b n n (fun z => z = []) := ega_pure ea_nil
theorem ega_cons (h : EvG K w te δ i b n n1 P) (h2 : EvGA K w tz δ i b n1 n2 PA) : EvGA K w (tCons te tz) δ i b n n2 (fun z => ∃ d r, z = d :: r ∧ P d ∧ PA r) := fun _ _ _ F H σ g S hi hg Q q =>
  h _ _ _ _ _ _ _ S hi hg _ fun d v F2 H2 p s S2 e => h2 _ _ _ _ _ _ _ S2 hi hg _ fun ds vs F3 H3 p2 s2 S3 e2 => q (d :: ds) (v :: vs) F3 H3 ⟨d, ds, rfl, p, p2⟩ (s.trans s2) S3 (.cons (dp_up s2.ff _ _ e) e2)
theorem ega_cons2 {PB : PD → List PD → Prop} (h : EvG K w te δ i b n n1 P) (h2 : ∀ d, P d → EvGA K w tz δ i b n1 n2 (PB d)) : EvGA K w (tCons te tz) δ i b n n2 (fun z => ∃ d r, z = d :: r ∧ P d ∧ PB d r) := fun _ _ _ F H σ g S hi hg Q q =>
  h _ _ _ _ _ _ _ S hi hg _ fun d v F2 H2 p s S2 e => h2 d p _ _ _ _ _ _ _ S2 hi hg _ fun ds vs F3 H3 p2 s2 S3 e2 => q (d :: ds) (v :: vs) F3 H3 ⟨d, ds, rfl, p, p2⟩ (s.trans s2) S3 (.cons (dp_up s2.ff _ _ e) e2)
/-- f(g, ..), f a def that draws -/
theorem eg_call {l : Nat} {k : Int} {R : List PD → (PD → Prop) → Prop} {E : XK} (h : EvGA K w tz δ i b n n1 PA) (hn : n1 + k ≤ gmax) (r : ∀ ds, PA ds → ds.length + 1 = l ∧ R ds P) : EvG K w (tCall (spG K l k R) [] E (tCons (tVar i) tz)) δ i b n (n1 + k) P := fun _ _ _ F H σ g S hi hg Q q => by
  refine ⟨_, hg, h _ _ _ _ _ _ _ S hi hg _ fun ds vs F2 H2 p s S2 e => ?_⟩
  have e0 : (δ.set i (.gen b n1))[i]? = some (.gen b n1) := List.getElem?_set_self hi
  obtain ⟨p', e1, f1, G⟩ := S2.ok i _ e0
  rw [hg] at e1
  cases e1
  refine ⟨F2, g, n1, vs, ds, P, by rw [List.append_nil], S2.fz, f1, G, hn, e, (r ds p).1, (r ds p).2, fun d v F3 H3 pd s3 G3 e3 => ?_⟩
  exact q d v F3 H3 pd (s.trans s3) (S2.turn hi hg s3 G3) e3
/-- f(..), f a def that does not draw, its arguments do -/
theorem eg_callP {l : Nat} {R : List PD → PD → Prop} {E : XK} (h : EvGA K w tz δ i b n n1 PA) (r : ∀ ds, PA ds → ds.length = l ∧ ∃ d, R ds d ∧ P d) : EvG K w (tCall (spS K l R) [] E tz) δ i b n n1 P := fun _ _ _ F H σ g S hi hg Q q =>
  h _ _ _ _ _ _ _ S hi hg _ fun ds vs F2 H2 p s S2 e => by
    obtain ⟨hl, d, rd, pd⟩ := r ds p
    exact ⟨F2, ds, d, S2.fz, by rw [List.append_nil]; exact e, hl, rd, fun v F3 H3 s3 e3 => q d v F3 H3 pd (s.trans s3.wk) (S2.up s3) e3⟩
theorem eg_op2 {r : R2} (h : EvG K w ta δ i b n n1 P1) (h2 : EvG K w tb δ i b n1 n2 P2) (hr : ∀ x y, P1 x → P2 y → ∃ z e, P e ∧ (∀ H : Hp, Dp K H z e) ∧ ∀ (H : Hp) (v u : V), Dp K H v x → Dp K H u y → ∀ Q : VK, Q z H → r v u H Q) : EvG K w (tOp r ta tb) δ i b n n2 P := fun _ _ _ F H σ g S hi hg Q q =>
  h _ _ _ _ _ _ _ S hi hg _ fun x v F2 H2 p s S2 e => h2 _ _ _ _ _ _ _ S2 hi hg _ fun y u F3 H3 p2 s2 S3 e2 => by
    obtain ⟨z, e3, pe, dz, hrr⟩ := hr x y p p2
    exact hrr H3 v u (dp_up (s2.ff.trans S3.fh) _ _ e) (dp_up S3.fh _ _ e2) Q (q e3 z F3 H3 pe (s.trans s2) S3 (dz F3))
theorem eg_int2 {f : Int → Int → V} (h : EvG K w ta δ i b n n1 P1) (h2 : EvG K w tb δ i b n1 n2 P2) (hr : ∀ x y, P1 x → P2 y → ∃ a b e, x = .int a ∧ y = .int b ∧ P e ∧ ∀ H : Hp, Dp K H (f a b) e) : EvG K w (tOp (rI0 f) ta tb) δ i b n n2 P :=
  eg_op2 h h2 fun x y p q => by
    obtain ⟨a, b, e, rfl, rfl, pe, dz⟩ := hr x y p q
    exact ⟨f a b, e, pe, dz, fun H v u h1 h2 Q q => ⟨a, b, dp_int h1, dp_int h2, q⟩⟩
theorem eg_cb {r : List V → Hp → VK → Prop} (h : EvGA K w tz δ i b n n2 PA) (hr : ∀ ds, PA ds → ∃ z e, P e ∧ (∀ H : Hp, Dp K H z e) ∧ ∀ (H : Hp) (vs : List V), DpAll K H vs ds → ∀ Q : VK, Q z H → r vs H Q) : EvG K w (tCB r tz) δ i b n n2 P := fun _ _ _ F H σ g S hi hg Q q =>
  h _ _ _ _ _ _ _ S hi hg _ fun ds vs F2 H2 p s S2 e => by
    obtain ⟨z, e3, pe, dz, hrr⟩ := hr ds p
    exact hrr H2 vs (da_up S2.fh _ _ e) Q (q e3 z F2 H2 pe s S2 (dz F2))
theorem eg_ixL (h : EvG K w ta δ i b n n1 P1) (h2 : EvG K w tb δ i b n1 n2 P2) (hr : ∀ x y, P1 x → P2 y → ∃ ds k d, x = .list ds ∧ y = .int k ∧ atI ds k = some d ∧ P d) : EvG K w (tOp (rIxL K) ta tb) δ i b n n2 P := fun _ _ _ F H σ g S hi hg Q q =>
  h _ _ _ _ _ _ _ S hi hg _ fun x v F2 H2 p s S2 e => h2 _ _ _ _ _ _ _ S2 hi hg _ fun y u F3 H3 p2 s2 S3 e2 => by
    obtain ⟨ds, k, d, rfl, rfl, ha, pd⟩ := hr x y p p2
    obtain ⟨a, vs, rfl, hs, hd⟩ := dp_list (dp_up s2.ff _ _ e)
    obtain ⟨v', g1, g2⟩ := at_da hd ha
    exact ⟨a, vs, k, v', rfl, dp_int e2, S3.fh.seq hs, g1, q d v' F3 H3 pd (s.trans s2) S3 g2⟩
theorem stp_frz {F H : Hp} {p g : Addr} {o : HO} (h : Same F H) (hp : H p = none) (k : OkO o) : Stp (fun a => a = g) F H (upd F p o) (upd H p o) := Stp.frz h hp k
theorem eg_lst (h : EvGA K w tz δ i b n n2 PA) (hl : ∀ ds, PA ds → ds.length ≤ 100000 ∧ P (.list ds)) : EvG K w (tLst tz) δ i b n n2 P := fun _ _ _ F H σ g S hi hg Q q =>
  h _ _ _ _ _ _ _ S hi hg _ fun ds vs F2 H2 p s S2 e => by
    obtain ⟨l1, pd⟩ := hl ds p
    refine ⟨by rw [da_len e]; exact small_line l1, fun D hD => ?_⟩
    exact q (.list ds) (.ref D) (upd F2 D (.lst vs)) _ pd (s.trans (stp_frz S2.fh hD ok_lst)) (S2.up (.frz S2.fh hD ok_lst)) (.lst (.inl (.inl upd_same)) (da_up (same_new (S2.fh.free hD)) _ _ e))
theorem eg_tup (h : EvGA K w tz δ i b n n2 PA) (hl : ∀ ds, PA ds → ds.length ≤ 100000 ∧ P (.tuple ds)) : EvG K w (tTupN tz) δ i b n n2 P := fun _ _ _ F H σ g S hi hg Q q =>
  h _ _ _ _ _ _ _ S hi hg _ fun ds vs F2 H2 p s S2 e => by
    obtain ⟨l1, pd⟩ := hl ds p
    refine ⟨by rw [da_len e]; exact small_line l1, fun D hD o ho => ?_⟩
    exact q (.tuple ds) (.ref D) (upd F2 D (.frz o (.tup vs))) _ pd (s.trans (stp_frz S2.fh hD (ok_tup ho))) (S2.up (.frz S2.fh hD (ok_tup ho))) (.tup (.inl (.inr ⟨_, upd_same⟩)) (da_up (same_new (S2.fh.free hD)) _ _ e))
/-! statements that draw -/
theorem Sig.gadr {F0 H0 F H : Hp} {m : Addr → Prop} {σ : L2.St} (S : Sig K w F0 H0 m F H σ (δ.set i (.gen b n))) (hi : i < δ.length) : ∃ g, σ[i]? = some (some (.ref g)) := by
  obtain ⟨p, e, _⟩ := S.ref (List.getElem?_set_self hi) rfl
  exact ⟨p, e⟩
theorem run_setG {j : Nat} (h : EvG K w te δ i b n n2 P) (hi : i < δ.length) (c : ∀ d, P d → nx ((δ.set i (.gen b n2)).set j (.d d))) : Run K w (tAsg te (gName j)) (δ.set i (.gen b n)) nx rt bk ct := fun _ _ _ F H σ S D a _ _ _ => by
  obtain ⟨g, hg⟩ := S.gadr hi
  exact h _ _ _ _ _ _ _ S hi hg _ fun d v F2 H2 p s S2 e => a _ F2 H2 _ (c d p) s.ff (S2.setD j e)
theorem run_retG (h : EvG K w te δ i b n n2 P) (hi : i < δ.length) (c : ∀ d, P d → rt (δ.set i (.gen b n2)) (.d d)) : Run K w (tRet te) (δ.set i (.gen b n)) nx rt bk ct := fun _ _ _ F H σ S D _ b _ _ => by
  obtain ⟨g, hg⟩ := S.gadr hi
  exact h _ _ _ _ _ _ _ S hi hg _ fun d v F2 H2 p s S2 e => b _ (.d d) v F2 H2 σ (c d p) s.ff S2 e
theorem run_appendG {j : Nat} {b2 : Bool} (h : EvG K w te δ i b n n2 P) (hi : i < δ.length) (hj : (δ.set i (.gen b n))[j]? = some (.own b2 ds)) (hj2 : (δ.set i (.gen b n2))[j]? = some (.own b2 ds)) (ij : i ≠ j) (hl : ds.length < 100000) (c : ∀ d, P d → nx ((δ.set i (.gen b n2)).set j (.own b2 (ds ++ [d])))) :
    Run K w (tDrop (tBM K "list" rAppend (tVar j) (tCons te tNil))) (δ.set i (.gen b n)) nx rt bk ct := fun _ _ _ F H σ S D a _ _ _ => by
  obtain ⟨g, hg⟩ := S.gadr hi
  obtain ⟨p, vs, e1, f1, h1, d1⟩ := S.own hj
  refine ⟨_, e1, .inl ⟨rfl, vs, .inl (.inl h1)⟩, h _ _ _ _ _ _ _ S hi hg _ fun d v F2 H2 pd s S2 e => ?_⟩
  obtain ⟨p2, vs2, e2, f2, h2, d2⟩ := S2.own hj2
  rw [e1] at e2
  cases e2
  refine ⟨p, vs2, v, rfl, rfl, h2, by rw [da_len d2]; exact lt_line hl, ?_⟩
  exact a _ F2 _ σ (c d pd) s.ff (S2.chg hj2 rfl e1 f2 (by rw [h2]; exact fun z => nomatch z) ⟨p, _, rfl, f2, upd_same, da_app d2 (.cons e .nil)⟩ rfl rfl)
theorem tsg_pure {bb : Bool} (h : TsB K w tt (δ.set i (.gen b n)) bb) : TsG K w tt δ i b n n (fun z => z = bb) := fun _ _ _ F H σ g S hi hg Q q => h _ _ _ _ _ _ S _ fun F2 H2 s => q bb F2 H2 rfl s.wk (S.up s)
theorem tsg_val {PB : Bool → Prop} (h : EvG K w te δ i b n n2 (fun d => ∃ bb, d = .bool bb ∧ PB bb)) : TsG K w (tB te) δ i b n n2 PB := fun _ _ _ F H σ g S hi hg Q q => h _ _ _ _ _ _ _ S hi hg _ fun d v F2 H2 p s S2 e => by
  obtain ⟨bb, rfl, pb⟩ := p
  exact ⟨bb, dp_bool e, q bb F2 H2 pb s S2⟩
theorem tsg_cmp {PB : Bool → Prop} (h : EvG K w te δ i b n n2 (fun d => ∃ bb, d = .bool bb ∧ PB bb)) : TsG K w (tTest te) δ i b n n2 PB := fun _ _ _ F H σ g S hi hg Q q => h _ _ _ _ _ _ _ S hi hg _ fun d v F2 H2 p s S2 e => by
  obtain ⟨bb, rfl, pb⟩ := p
  exact ⟨bb, dp_bool e, q bb F2 H2 pb s S2⟩
theorem tsg_not {PB : Bool → Prop} (h : TsG K w tt δ i b n n2 (fun bb => PB (!bb))) : TsG K w (tNot tt) δ i b n n2 PB := fun _ _ _ F H σ g S hi hg Q q => h _ _ _ _ _ _ _ S hi hg _ fun bb F2 H2 p s S2 => q (!bb) F2 H2 p s S2
theorem run_ifG {PB : Bool → Prop} (h : TsG K w tt δ i b n n2 PB) (hi : i < δ.length) (h1 : PB true → Run K w t (δ.set i (.gen b n2)) nx rt bk ct) (h2 : PB false → Run K w u (δ.set i (.gen b n2)) nx rt bk ct) : Run K w (tIfS tt t u) (δ.set i (.gen b n)) nx rt bk ct := fun _ _ _ F H σ S D a r c e => by
  obtain ⟨g, hg⟩ := S.gadr hi
  refine h _ _ _ _ _ _ _ S hi hg _ fun bb F2 H2 p s S2 => ?_
  cases bb with
  | true => exact h1 p _ _ _ _ _ _ S2 D (fun δ' F3 H3 σ3 q s2 S3 => a δ' F3 H3 σ3 q (s.ff.trans s2) S3) (fun δ' z v F3 H3 σ3 q s2 S3 R => r δ' z v F3 H3 σ3 q (s.ff.trans s2) S3 R) (fun δ' F3 H3 σ3 q s2 S3 => c δ' F3 H3 σ3 q (s.ff.trans s2) S3) (fun δ' F3 H3 σ3 q s2 S3 => e δ' F3 H3 σ3 q (s.ff.trans s2) S3)
  | false => exact h2 p _ _ _ _ _ _ S2 D (fun δ' F3 H3 σ3 q s2 S3 => a δ' F3 H3 σ3 q (s.ff.trans s2) S3) (fun δ' z v F3 H3 σ3 q s2 S3 R => r δ' z v F3 H3 σ3 q (s.ff.trans s2) S3 R) (fun δ' F3 H3 σ3 q s2 S3 => c δ' F3 H3 σ3 q (s.ff.trans s2) S3) (fun δ' F3 H3 σ3 q s2 S3 => e δ' F3 H3 σ3 q (s.ff.trans s2) S3)
/-- the drawing list opened: its three numbers -/
theorem run_opn (hi : i < δ.length) (h : ∀ a s c : Int, 0 ≤ a → a < 10 ^ 600 → 0 ≤ s → s < 2147483647 → 0 ≤ c → c ≤ n → Run K w t (δ.set i (.own b [.int a, .int s, .int c])) nx rt bk ct) : Run K w t (δ.set i (.gen b n)) nx rt bk ct := fun F0 H0 m F H σ S D x1 x2 x3 x4 => by
  have e0 : (δ.set i (.gen b n))[i]? = some (.gen b n) := List.getElem?_set_self hi
  obtain ⟨g, hg⟩ := S.gadr hi
  obtain ⟨p', e1, f1, a, s, c, hH, b1, b2, b3, b4, b5, b6⟩ := S.ok i _ e0
  rw [hg] at e1
  cases e1
  refine h a s c b1 b2 b3 b4 b5 b6 F0 H0 m F H σ ?_ D x1 x2 x3 x4
  have self : (δ.set i (.own b [.int a, .int s, .int c]))[i]? = some (.own b [.int a, .int s, .int c]) := List.getElem?_set_self hi
  have slot : ∀ (j : Nat) (z : Slot), i ≠ j → (δ.set i (.own b [.int a, .int s, .int c]))[j]? = some z → (δ.set i (.gen b n))[j]? = some z := fun j z q e => by
    rw [List.getElem?_set_ne q] at e ⊢
    exact e
  refine ⟨S.st, by have := S.len; rw [List.length_set] at this ⊢; exact this, fun j z e => ?_, fun j k si sj v jk ej ek mj mk => ?_, fun j z p e ms ep => ?_, S.n0⟩
  · by_cases q : i = j
    · subst q
      rw [self] at e
      cases e
      rw [hg]
      exact ⟨g, _, rfl, f1, hH, .cons (.int a) (.cons (.int s) (.cons (.int c) .nil))⟩
    · exact S.ok j z (slot j z q e)
  · have mtx : ∀ (l : Nat) (sl : Slot), (δ.set i (.own b [.int a, .int s, .int c]))[l]? = some sl → sl.mt = true → ∃ s2, (δ.set i (.gen b n))[l]? = some s2 ∧ s2.mt = true := fun l sl e1 e2 => by
      by_cases q : i = l
      · subst q; exact ⟨_, e0, rfl⟩
      · exact ⟨sl, slot l sl q e1, e2⟩
    obtain ⟨s1, a1, b1⟩ := mtx j si ej mj
    obtain ⟨s2, a2, b2⟩ := mtx k sj ek mk
    exact S.dis j k s1 s2 v jk a1 a2 b1 b2
  · by_cases q : i = j
    · subst q
      rw [self] at e
      cases e
      have q := S.fr i (.gen b n) p e0 rfl ep
      exact q
    · exact S.fr j z p (slot j z q e) ms ep
/-- the drawing list's end -/
def GenEnd (δ : List Slot) (n : Int) : Prop := (∃ k, δ[0]? = some (.gen false k) ∧ k ≤ n) ∨ ∃ a s c : Int, δ[0]? = some (.own false [.int a, .int s, .int c]) ∧ 0 ≤ a ∧ a < 10 ^ 600 ∧ 0 ≤ s ∧ s < 2147483647 ∧ 0 ≤ c ∧ c ≤ n
theorem genEnd_at {F0 H0 F H : Hp} {m : Addr → Prop} {σ : L2.St} {p : Addr} (S : Sig K w F0 H0 m F H σ δ) (e : GenEnd δ n) (hp : σ[0]? = some (some (.ref p))) : GenAt H p n := by
  rcases e with ⟨k, e, h⟩ | ⟨a, s, c, e, b⟩
  · obtain ⟨p', e1, f1, a, s, c, hH, b1, b2, b3, b4, b5, b6⟩ := S.ok 0 _ e
    rw [hp] at e1
    cases e1
    exact ⟨a, s, c, hH, b1, b2, b3, b4, b5, Int.le_trans b6 h⟩
  · obtain ⟨p', vs, e1, f1, hH, hd⟩ := S.ok 0 _ e
    rw [hp] at e1
    cases e1
    have e3 : vs = [.int a, .int s, .int c] := ints_da (ns := [a, s, c]) hd
    rw [e3] at hH
    exact ⟨a, s, c, hH, b⟩
/-- a def that draws: its body -/
theorem start_sigG {N : List Str} {F H : Hp} {g : Addr} {vs : List V} (h : DpAll K F vs ds) (s : Fz F H) (fg : F g = none) (G : GenAt H g n) : Sig K w F H (fun a => a = g) F H (L2.start N (.ref g :: vs)) (.gen false n :: startD (N.length - 1) ds) := by
  have l := da_len h
  have slot : ∀ (i : Nat) (s : Slot), (startD (N.length - 1) ds)[i]? = some s → (∃ d, ds[i]? = some d ∧ s = .d d) ∨ s = .emp := fun i s e => by
    unfold startD at e
    by_cases q : i < ds.length
    · rw [List.getElem?_append_left (by rw [List.length_map]; exact q), List.getElem?_map] at e
      rw [List.getElem?_eq_getElem q] at e ⊢
      exact .inl ⟨_, rfl, (Option.some.inj e).symm⟩
    · rw [List.getElem?_append_right (by rw [List.length_map]; omega)] at e
      exact .inr (List.eq_of_mem_replicate (List.mem_of_getElem? e))
  have e0 : L2.start N (.ref g :: vs) = some (.ref g) :: (vs.map some ++ List.replicate (N.length - 1 - vs.length) none) := by
    unfold L2.start
    rw [List.map_cons, List.length_cons, List.cons_append, Nat.sub_sub, Nat.add_comm]
  rw [e0]
  have mt1 : ∀ (i : Nat) (s : Slot), (.gen false n :: startD (N.length - 1) ds)[i]? = some s → s.mt = true → i = 0 ∧ s = .gen false n := fun i s e ms => by
    cases i with
    | zero => cases e; exact ⟨rfl, rfl⟩
    | succ j => rcases slot j s e with ⟨d, e1, rfl⟩ | rfl <;> cases ms
  refine ⟨.refl s.s, ?_, fun i s e => ?_, fun i j si sj v ij ei ej mi mj => ?_, fun i s p e ms ep => ?_, s.n⟩
  · unfold startD
    rw [List.length_cons, List.length_cons, List.length_append, List.length_append, List.length_map, List.length_map, List.length_replicate, List.length_replicate, l]
  · cases i with
    | zero => cases e; exact ⟨g, rfl, fg, G⟩
    | succ j =>
      rcases slot j s e with ⟨d, e1, rfl⟩ | rfl
      · obtain ⟨v, h1, h2⟩ := da_get h e1
        refine ⟨v, ?_, h2⟩
        rw [List.getElem?_cons_succ, List.getElem?_append_left (by rw [List.length_map]; exact (List.getElem?_eq_some_iff.mp h1).1), List.getElem?_map, h1]
        rfl
      · exact trivial
  · obtain ⟨a1, _⟩ := mt1 i si ei mi
    obtain ⟨a2, _⟩ := mt1 j sj ej mj
    exact absurd (a1.trans a2.symm) ij
  · obtain ⟨a1, rfl⟩ := mt1 i s e ms
    subst a1
    cases ep
    exact ⟨(fun y => by cases y), fun _ => rfl⟩
theorem run_spG {N : List Str} {F H : Hp} {g : Addr} {vs : List V} {Q : VK} {k : Int} (s : Fz F H) (fg : F g = none) (G : GenAt H g n) (h : DpAll K F vs ds) (c : ∀ d v F2 H2, P d → Stp (fun a => a = g) F H F2 H2 → GenAt H2 g (n + k) → Dp K F2 v d → Q v H2)
    (r : Run K w t (.gen false n :: startD (N.length - 1) ds) no1 (fun δ' r => GenEnd δ' (n + k) ∧ ((∃ d, r = .d d ∧ P d) ∨ ∃ xs, r = .own xs ∧ P (.list xs))) no1 no1) : t { nx := fun _ H' => Q .non H', rt := Q } (L2.start N (.ref g :: vs)) H := by
  refine r F H _ F H _ (start_sigG h s fg G) _ (fun _ _ _ _ z => z.elim) (fun δ' r v F2 H2 σ2 e f S R => ?_) (fun _ _ _ _ z => z.elim) (fun _ _ _ _ z => z.elim)
  have hm : ∃ s, δ'[0]? = some s ∧ s.mt = true := by
    rcases e.1 with ⟨k, e, _⟩ | ⟨a, b, c, e, _⟩
    · exact ⟨_, e, rfl⟩
    · exact ⟨_, e, rfl⟩
  obtain ⟨s0, e0, m0⟩ := hm
  obtain ⟨p, ep, _⟩ := S.ref e0 m0
  have G2 : GenAt H2 p (n + k) := genEnd_at S e.1 ep
  have pg : p = g := by
    refine (S.fr 0 _ p e0 m0 ep).2 ?_
    rcases e.1 with ⟨k, e, _⟩ | ⟨a, b, c, e, _⟩
    · rw [e] at e0; cases e0; rfl
    · rw [e] at e0; cases e0; rfl
  subst pg
  rcases e.2 with ⟨d, rfl, pd⟩ | ⟨xs, rfl, pd⟩
  · exact c d v F2 H2 pd S.st G2 R
  · obtain ⟨p, vs, rfl, f1, h0, h1, d1⟩ := R
    refine c _ _ (upd F2 p (.lst vs)) H2 pd ⟨S.st.ff.trans (same_new f1), fun b o eb => ?_, S.st.hh, fun b eb nb => ?_, S.st.hn, S.st.nd⟩ G2 (.lst (.inl (.inl upd_same)) (da_up (same_new f1) _ _ d1))
    · by_cases z : b = p
      · subst z; rw [upd_same] at eb; cases eb; exact h1
      · rw [upd_ne z] at eb; exact S.fh b o eb
    · rw [upd_ne (fun z => nb (by rw [z]; exact h0))]
      exact S.st.nj b eb nb
/-- x = e, e a new drawing list -/
theorem run_setGen {j : Nat} {a s c : Int} (h : EvO K w te δ [.int a, .int s, .int c]) (hb : 0 ≤ a ∧ a < 10 ^ 600 ∧ 0 ≤ s ∧ s < 2147483647 ∧ 0 ≤ c ∧ c ≤ n) (k : nx (δ.set j (.gen true n))) : Run K w (tAsg te (gName j)) δ nx rt bk ct := fun F0 H0 m F H σ S D x _ _ _ =>
  h _ _ _ _ _ _ S _ fun p vs F2 H2 st f np e dp => x _ F2 H2 _ k st.ff ((S.up st).setM j ⟨p, rfl, f, a, s, c, by rw [e, ints_da (ns := [a, s, c]) dp]; rfl, hb⟩ rfl (new_loc S np) fun j2 sj _ ej mj eq => by
      obtain ⟨p', e1, _⟩ := S.ref ej mj
      rw [e1] at eq
      cases eq
      have q := S.ok j2 sj ej
      rw [e1] at q
      cases sj with
      | emp => cases mj
      | d x => cases mj
      | own b xs => obtain ⟨_, _, h1, _, h3, _⟩ := q; cases h1; rw [np] at h3; cases h3
      | gen b' n => obtain ⟨_, h1, _, _, _, _, h3, _⟩ := q; cases h1; rw [np] at h3; cases h3
      | set S' n => obtain ⟨_, h1, _, h3⟩ := q; cases h1; rw [np] at h3; cases h3
      | ob o9 => obtain ⟨_, h1, _, h3⟩ := q; cases h1; rw [np] at h3; cases h3)
/-- a, b = e1, e2, both new lists that will change -/
theorem run_parO {j1 j2 : Nat} (h1 : EvO K w ta δ xs) (h2 : EvO K w tb δ ys) (k : nx ((δ.set j1 (.own true xs)).set j2 (.own true ys))) : Run K w (tPar j1 j2 (tCons ta (tCons tb tNil))) δ nx rt bk ct := fun F0 H0 m F H σ S D x _ _ _ =>
  h1 _ _ _ _ _ _ S _ fun p vs F2 H2 st f np e dp => h2 _ _ _ _ _ _ (S.up st) _ fun p2 vs2 F3 H3 st2 f2 np2 e2 dp2 => by
    have fresh : ∀ (q : Addr), H q = none → ∀ (j2 : Nat) (sj : Slot), δ[j2]? = some sj → sj.mt = true → σ[j2]? ≠ some (some (.ref q)) := fun q np j2 sj ej mj eq => by
      obtain ⟨p', e1, _⟩ := S.ref ej mj
      rw [e1] at eq
      cases eq
      have q := S.ok j2 sj ej
      rw [e1] at q
      cases sj with
      | emp => cases mj
      | d x => cases mj
      | own b xs => obtain ⟨_, _, h1, _, h3, _⟩ := q; cases h1; rw [np] at h3; cases h3
      | gen b' n => obtain ⟨_, h1, _, _, _, _, h3, _⟩ := q; cases h1; rw [np] at h3; cases h3
      | set S' n => obtain ⟨_, h1, _, h3⟩ := q; cases h1; rw [np] at h3; cases h3
      | ob o9 => obtain ⟨_, h1, _, h3⟩ := q; cases h1; rw [np] at h3; cases h3
    have n2 : H p2 = none := by
      cases q : H p2 with
      | none => rfl
      | some o => rw [st.hs _ _ q] at np2; cases np2
    have ne : p ≠ p2 := fun z => by
      subst z
      rw [e] at np2
      cases np2
    have f3 : F3 p = none := st2.nj p f (by rw [e]; exact fun z => nomatch z)
    have S3 := ((S.up st).up st2).setM j1 (s := .own true xs) ⟨p, vs, rfl, f3, st2.hs _ _ e, da_up st2.ff _ _ dp⟩ rfl (new_loc S np) fun j sj _ ej mj => fresh p np j sj ej mj
    refine ⟨_, _, rfl, x _ F3 H3 _ k (st.ff.trans st2.ff) (S3.setM j2 ⟨p2, vs2, rfl, f2, e2, dp2⟩ rfl (new_loc S n2) fun j sj nj ej mj => ?_)⟩
    by_cases z : j1 = j
    · subst z
      intro q
      by_cases l : j1 < σ.length
      · rw [List.getElem?_set_self l] at q
        cases q
        exact ne rfl
      · rw [List.getElem?_eq_none (by rw [List.length_set]; omega)] at q
        cases q
    · rw [List.getElem?_set_ne z] at ej ⊢
      exact fresh p2 n2 j sj ej mj
theorem Sig.more {F0 H0 F H : Hp} {m : Addr → Prop} {σ : L2.St} (S : Sig K w F0 H0 m F H σ (δ.set i (.gen b n))) (hi : i < δ.length) (l : n ≤ n2) : Sig K w F0 H0 m F H σ (δ.set i (.gen b n2)) := by
  have e0 : (δ.set i (.gen b n))[i]? = some (.gen b n) := List.getElem?_set_self hi
  obtain ⟨g, hg⟩ := S.gadr hi
  obtain ⟨p', e1, f1, a, s, c, hH, b1, b2, b3, b4, b5, b6⟩ := S.ok i _ e0
  rw [hg] at e1
  cases e1
  exact S.turn hi hg (.refl S.fh) ⟨a, s, c, hH, b1, b2, b3, b4, b5, Int.le_trans b6 l⟩
theorem eg_more (h : EvG K w te δ i b n n1 P) (l : n1 ≤ n2) : EvG K w te δ i b n n2 P := fun _ _ _ F H σ g S hi hg Q q => h _ _ _ _ _ _ _ S hi hg Q fun d v F2 H2 p s S2 e => q d v F2 H2 p s (S2.more hi l) e
theorem eg_tupleOf (h : EvG K w ta δ i b n n2 P1) (hr : ∀ x, P1 x → ∃ ds, x = .list ds ∧ P (.tuple ds)) : EvG K w (tCB (rTupOfN K) (tCons ta tNil)) δ i b n n2 P := fun _ _ _ F H σ g S hi hg Q q =>
  h _ _ _ _ _ _ _ S hi hg _ fun d v F2 H2 p s S2 e => by
    obtain ⟨ds, rfl, pd⟩ := hr d p
    obtain ⟨a, vs, rfl, hs, hd⟩ := dp_list e
    exact ⟨a, vs, rfl, .inl ⟨S2.fh.seq hs, fun l hl o ho => q (.tuple ds) (.ref l) (upd F2 l (.frz o (.tup vs))) _ pd (s.trans (stp_frz S2.fh hl (ok_tup ho))) (S2.up (.frz S2.fh hl (ok_tup ho))) (.tup (.inl (.inr ⟨_, upd_same⟩)) (da_up (same_new (S2.fh.free hl)) _ _ hd))⟩⟩
theorem eg_catT (h : EvG K w ta δ i b n n1 P1) (h2 : EvG K w tb δ i b n1 n2 P2) (hr : ∀ x y, P1 x → P2 y → ∃ xs ys, x = .tuple xs ∧ y = .tuple ys ∧ xs.length + ys.length ≤ 100000 ∧ P (.tuple (xs ++ ys))) : EvG K w (tOp (rCatN K) ta tb) δ i b n n2 P := fun _ _ _ F H σ g S hi hg Q q =>
  h _ _ _ _ _ _ _ S hi hg _ fun x v F2 H2 p s S2 e => h2 _ _ _ _ _ _ _ S2 hi hg _ fun y u F3 H3 p2 s2 S3 e2 => by
    obtain ⟨xs, ys, rfl, rfl, hl, pd⟩ := hr x y p p2
    obtain ⟨a, vs, rfl, hs, hd⟩ := dp_tuple (dp_up s2.ff _ _ e)
    obtain ⟨c, us, rfl, hs2, hd2⟩ := dp_tuple e2
    refine ⟨a, c, vs, us, rfl, rfl, sqt_up S3.fh hs, sqt_up S3.fh hs2, by rw [da_len hd, da_len hd2]; exact small_line hl, fun z => ?_, fun z z2 => ?_, fun z z2 p hp o ho => ?_⟩
    · subst z
      cases hd
      exact q _ _ F3 H3 pd (s.trans s2) S3 e2
    · subst z2
      cases hd2
      rw [List.append_nil] at pd
      exact q _ _ F3 H3 pd (s.trans s2) S3 (dp_up s2.ff _ _ e)
    · exact q _ _ (upd F3 p (.frz o (.tup (vs ++ us)))) _ pd ((s.trans s2).trans (stp_frz S3.fh hp (ok_tup ho))) (S3.up (.frz S3.fh hp (ok_tup ho))) (.tup (.inl (.inr ⟨_, upd_same⟩)) (da_up (same_new (S3.fh.free hp)) _ _ (da_app hd hd2)))
/-- what a comprehension that draws may give -/
inductive LcR (kp : PD → PD → Prop) (sk : PD → Prop) : List PD → List PD → Prop where
  | nil : LcR kp sk [] []
  | keep {x e : PD} {xs es : List PD} : LcR kp sk xs es → kp x e → LcR kp sk (xs ++ [x]) (es ++ [e])
  | skip {x : PD} {xs es : List PD} : LcR kp sk xs es → sk x → LcR kp sk (xs ++ [x]) es
theorem LcR.len {kp : PD → PD → Prop} {sk : PD → Prop} {xs es : List PD} (h : LcR kp sk xs es) : es.length ≤ xs.length := by
  induction h with
  | nil => exact Nat.le_refl _
  | keep _ _ ih => rw [List.length_append, List.length_append]; exact Nat.succ_le_succ ih
  | skip _ _ ih => rw [List.length_append]; exact Nat.le_succ_of_le ih
theorem set_two {α : Type} {l : List α} {i v : Nat} {x y : α} (h : i ≠ v) : (l.set i x).set v y = (l.set v y).set i x := by
  rw [List.set_comm _ _ h]
theorem eg_lc {v : Nat} {k : Int} {kp : PD → PD → Prop} {sk : PD → Prop} (hi : ItD K w wi (δ.set i (.gen b n)) ds) (hk : 0 ≤ k) (iv : i ≠ v) (hl : ds.length ≤ 100000)
    (hs : ∀ (j : Nat) (x : PD), ds[j]? = some x → ∃ (k1 : Int) (PB : Bool → Prop), k1 ≤ k ∧ TsG K w tt (δ.set v (.d x)) i b (n + k * j) (n + k * j + k1) PB ∧ (PB true → EvG K w te (δ.set v (.d x)) i b (n + k * j + k1) (n + k * j + k) (kp x)) ∧ (PB false → sk x)) :
    EvG K w (tLc wi (gName v) tt te [v]) δ i b n (n + k * ds.length) (fun d => ∃ es, d = .list es ∧ LcR kp sk ds es) := fun F0 H0 m F H σ g S il hg Q q =>
  hi _ _ _ _ _ _ S _ fun J F2 H2 s Y => fun D nD => by
    have f2 : F2 D = none := s.fh.free nD
    have eg0 : (δ.set i (.gen b n))[i]? = some (.gen b n) := List.getElem?_set_self il
    have gD : D ≠ g := fun z => by
      obtain ⟨p', e1, f1, a, s', c, hH, _⟩ := (S.up s).ok i _ eg0
      rw [hg] at e1
      cases e1
      rw [← z, nD] at hH
      cases hH
    refine ⟨fun j r H' => r = ds.length - j ∧ j ≤ ds.length ∧ ∃ F' acc es, Stp (fun a => a = g) F2 H2 F' H' ∧ Sig K w F0 H0 m F' H' σ (δ.set i (.gen b (n + k * j))) ∧ F' D = none ∧ H' D = some (.lst acc) ∧ DpAll K F' acc es ∧ LcR kp sk (ds.take j) es, ⟨ds.length, by omega, Nat.zero_le _, F2, [], [], .mk1 s.fh nD, ?_, f2, upd_same, .nil, .nil⟩, ?_⟩
    · rw [Int.natCast_zero, Int.mul_zero, Int.add_zero]
      exact (S.up s).up (.mk1 s.fh nD)
    rintro j r H' ⟨rfl, hj, F', acc, es, st, S', fD, hD, hd, lr⟩
    have y := Y F' H' st.ff st.fh j
    by_cases z : j < ds.length
    · refine .inr ?_
      have ex : ds[j]? = some ds[j] := List.getElem?_eq_getElem z
      obtain ⟨g1, g2⟩ := y.1 _ ex
      have e1 : n + k * ((j + 1 : Nat) : Int) = n + k * j + k := by rw [Int.natCast_add, Int.mul_add]; omega
      refine ⟨g1, fun H' => j + 1 ≤ ds.length ∧ ∃ F' acc es, Stp (fun a => a = g) F2 H2 F' H' ∧ Sig K w F0 H0 m F' H' σ (δ.set i (.gen b (n + k * (j + 1 : Nat)))) ∧ F' D = none ∧ H' D = some (.lst acc) ∧ DpAll K F' acc es ∧ LcR kp sk (ds.take (j + 1)) es, fun H' h' => ⟨ds.length - (j + 1), by omega, rfl, h'⟩, fun x H3 yy => ?_⟩
      obtain ⟨F3, s3, e3⟩ := g2 x H3 yy
      obtain ⟨k1, PB, hk1, tg, h1, h2⟩ := hs j _ ex
      have S3 := S'.up s3
      have S4 := (S3.drop v none).setD v e3
      have e4 : ((δ.set i (.gen b (n + k * j))).set v .emp).set v (.d ds[j]) = (δ.set v (.d ds[j])).set i (.gen b (n + k * j)) := by rw [List.set_set, set_two iv]
      rw [e4] at S4
      have hg4 : ((σ.set v none).set v (some x))[i]? = some (some (.ref g)) := by rw [List.set_set, List.getElem?_set_ne iv.symm]; exact hg
      have il4 : i < (δ.set v (.d ds[j])).length := by rw [List.length_set]; exact il
      refine ⟨by show (((σ.set v none).set v (some x)).set v none) = σ.set v none; rw [List.set_set, List.set_set], tg _ _ _ _ _ _ _ S4 il4 hg4 _ fun bb F4 H4 pb s4 S5 => ?_⟩
      have D3 : H3 D = some (.lst acc) := s3.hs _ _ hD
      have n3 : F3 D = none := s3.nj D fD (by rw [hD]; exact fun z => nomatch z)
      have D4 : H4 D = some (.lst acc) := s4.hh _ _ gD D3
      have n4 : F4 D = none := s4.nj D n3 (by rw [D3]; exact fun z => nomatch z)
      have gat : ∀ {F5 H5 : Hp} {n5 : Int}, Sig K w F0 H0 m F5 H5 ((σ.set v none).set v (some x)) ((δ.set v (.d ds[j])).set i (.gen b n5)) → GenAt H5 g n5 := fun {F5 H5 n5} S6 => by
        obtain ⟨p', e1, f1, G⟩ := S6.ok i _ (List.getElem?_set_self il4)
        rw [hg4] at e1
        cases e1
        exact G
      cases bb with
      | true =>
        rw [if_pos rfl]
        refine h1 pb _ _ _ _ _ _ _ S5 il4 hg4 _ fun d' v' F5 H5 pd s5 S6 e5 => ?_
        have D5 : H5 D = some (.lst acc) := s5.hh _ _ gD D4
        have n5 : F5 D = none := s5.nj D n4 (by rw [D4]; exact fun z => nomatch z)
        have stA : Stp (fun a => a = g) F2 H2 F5 H5 := ((st.trans s3.wk).trans s4).trans s5
        have stB : Stp (fun a => a = g) F2 H2 F5 (upd H5 D (.lst (acc ++ [v']))) := ⟨stA.ff, fun b' o' eb => by rw [upd_ne (ne_of_none eb n5)]; exact S6.fh b' o' eb, fun a o na ea => by rw [upd_ne (ne_of_none ea nD)]; exact stA.hh a o na ea, stA.nj, fun a na => up_some (stA.hn a na), fun nd => (stA.nd nd).put ok_lst⟩
        refine ⟨acc, D5, lt_line ?_, z, F5, acc ++ [v'], es ++ [d'], stB, ?_, n5, upd_same, da_app (da_up ((s3.ff.trans s4.ff).trans s5.ff) _ _ hd) (.cons e5 .nil), ?_⟩
        · rw [da_len hd]
          have := lr.len
          rw [List.length_take] at this
          omega
        · rw [e1]
          obtain ⟨a, s', c, hH, bds⟩ := gat S6
          exact (S.up s).turn il hg stB ⟨a, s', c, by rw [upd_ne gD.symm]; exact hH, bds⟩
        · rw [take_more ex]
          exact .keep lr pd
      | false =>
        rw [if_neg Bool.false_ne_true]
        refine ⟨z, F4, acc, es, (st.trans s3.wk).trans s4, ?_, n4, D4, da_up (s3.ff.trans s4.ff) _ _ hd, ?_⟩
        · rw [e1]
          exact ((S.up s).turn il hg ((st.trans s3.wk).trans s4) (gat S5)).more il (by omega)
        · rw [take_more ex]
          exact .skip lr (h2 pb)
    · refine .inl ⟨y.2 (by omega), ?_⟩
      have ej : j = ds.length := by omega
      subst ej
      rw [List.take_length] at lr
      have stF : Stp (fun a => a = g) F2 H2 (upd F' D (.lst acc)) H' := ⟨st.ff.trans (same_new fD), fun b' o' eb => by
          by_cases z : b' = D
          · subst z; rw [upd_same] at eb; cases eb; exact hD
          · rw [upd_ne z] at eb; exact st.fh b' o' eb, st.hh, fun a ea na => by
          rw [upd_ne (fun z => na (by rw [z]; exact nD))]
          exact st.nj a ea na, st.hn, st.nd⟩
      obtain ⟨p', q1, f1, G⟩ := S'.ok i _ (List.getElem?_set_self il)
      rw [hg] at q1
      cases q1
      exact q (.list es) (.ref D) (upd F' D (.lst acc)) H' ⟨es, rfl, lr⟩ (s.wk.trans stF) ((S.up s).turn il hg stF G) (.lst (.inl (.inl upd_same)) (da_up (same_new fD) _ _ hd))
/-- a, b = e1, e2, drawing -/
theorem run_parG {j1 j2 : Nat} (h : EvGA K w tz δ i b n n2 PA) (hi : i < δ.length) (c : ∀ ds, PA ds → ∃ x y, ds = [x, y] ∧ nx (((δ.set i (.gen b n2)).set j1 (.d x)).set j2 (.d y))) : Run K w (tPar j1 j2 tz) (δ.set i (.gen b n)) nx rt bk ct := fun _ _ _ F H σ S D a _ _ _ => by
  obtain ⟨g, hg⟩ := S.gadr hi
  refine h _ _ _ _ _ _ _ S hi hg _ fun ds vs F2 H2 p s S2 e => ?_
  obtain ⟨x, y, rfl, k⟩ := c ds p
  obtain ⟨v, u, rfl, r1, r2⟩ := da2 e
  exact ⟨v, u, rfl, a _ F2 H2 _ k s.ff ((S2.setD j1 r1).setD j2 r2)⟩
theorem LcR.all {kp : PD → PD → Prop} {xs es : List PD} (h : LcR kp (fun _ => False) xs es) : es.length = xs.length ∧ ∀ (j : Nat) (x : PD), xs[j]? = some x → ∃ e, es[j]? = some e ∧ kp x e := by
  induction h with
  | nil => exact ⟨rfl, fun j x e => by simp at e⟩
  | @keep x e xs es _ hk ih =>
    obtain ⟨l, a⟩ := ih
    refine ⟨by rw [List.length_append, List.length_append, l]; rfl, fun j y ej => ?_⟩
    by_cases z : j < xs.length
    · rw [List.getElem?_append_left z] at ej
      rw [List.getElem?_append_left (by omega)]
      exact a j y ej
    · rw [List.getElem?_append_right (by omega)] at ej
      have lj := (List.getElem?_eq_some_iff.mp ej).1
      have : j = xs.length := by
        rw [List.length_singleton] at lj
        omega
      subst this
      rw [Nat.sub_self] at ej
      cases ej
      refine ⟨e, ?_, hk⟩
      rw [List.getElem?_append_right (by omega), l, Nat.sub_self]
      rfl
  | skip _ h _ => exact h.elim
end
end MU

namespace MU
open PySem PySem.Spec L2
section
variable {K : PySem.W.Frag} {w : World} {δ δ' : List Slot} {te ta tb : TE} {tt : TT} {t u : TS} {tz : TA} {d x y : PD} {ds es xs ys : List PD}
/-! isinstance -/
def tyD : PD → String
  | .none => "NoneType"
  | .bool _ => "bool"
  | .int _ => "int"
  | .str _ => "str"
  | .list _ => "list"
  | .tuple _ => "tuple"
  | .dict _ => "dict"
def isIntD : PD → Bool
  | .bool _ => true
  | .int _ => true
  | _ => false
def isBoolD : PD → Bool
  | .bool _ => true
  | _ => false
def isTupD : PD → Bool
  | .tuple _ => true
  | _ => false
def isLstD : PD → Bool
  | .list _ => true
  | _ => false
theorem tyx_of {H : Hp} {v : V} (h : Dp K H v d) : TyX K H v (.type (tyD d)) := by
  cases h with
  | non => exact .base .non
  | bl b => exact .base (.bl b)
  | int b => exact .base (.int b)
  | str b => exact .base (.str b)
  | lst h1 h2 =>
    rcases h1 with (e | ⟨o, e⟩) | ⟨o, its, n, e, c, _⟩
    · exact .base (.lst e)
    · exact .base (.frz e)
    · exact .kList e c
  | tup h1 h2 =>
    rcases h1 with (e | ⟨o, e⟩) | ⟨o, its, n, e, c, _⟩
    · exact .base (.tup e)
    · exact .fTuple e
    · exact .kTuple e c
theorem ev_isi {c : String} {b : Bool} (ha : RdD K w ta δ d) (hk : kitB (tyD d) c = some b) : EvD K w (tCB (rIsi K) (tCons ta (tCons (tC (.ty c)) tNil))) δ (.bool b) := fun _ _ _ F H σ S Q q =>
  ha _ _ _ _ _ _ S _ fun v F2 H2 s e => ⟨v, .ty c, .type (tyD d), .type c, b, rfl, .ty c, tyx_of e, kit_ty hk, q _ F2 H2 s (.bl b)⟩
theorem kit_int : kitB (tyD d) "int" = some (isIntD d) := by
  cases d
  · exact (by decide +kernel : kitB "NoneType" "int" = some false)
  · exact (by decide +kernel : kitB "bool" "int" = some true)
  · exact (by decide +kernel : kitB "int" "int" = some true)
  · exact (by decide +kernel : kitB "str" "int" = some false)
  · exact (by decide +kernel : kitB "list" "int" = some false)
  · exact (by decide +kernel : kitB "tuple" "int" = some false)
  · exact (by decide +kernel : kitB "dict" "int" = some false)
theorem kit_bool : kitB (tyD d) "bool" = some (isBoolD d) := by
  cases d
  · exact (by decide +kernel : kitB "NoneType" "bool" = some false)
  · exact (by decide +kernel : kitB "bool" "bool" = some true)
  · exact (by decide +kernel : kitB "int" "bool" = some false)
  · exact (by decide +kernel : kitB "str" "bool" = some false)
  · exact (by decide +kernel : kitB "list" "bool" = some false)
  · exact (by decide +kernel : kitB "tuple" "bool" = some false)
  · exact (by decide +kernel : kitB "dict" "bool" = some false)
theorem kit_tup : kitB (tyD d) "tuple" = some (isTupD d) := by
  cases d
  · exact (by decide +kernel : kitB "NoneType" "tuple" = some false)
  · exact (by decide +kernel : kitB "bool" "tuple" = some false)
  · exact (by decide +kernel : kitB "int" "tuple" = some false)
  · exact (by decide +kernel : kitB "str" "tuple" = some false)
  · exact (by decide +kernel : kitB "list" "tuple" = some false)
  · exact (by decide +kernel : kitB "tuple" "tuple" = some true)
  · exact (by decide +kernel : kitB "dict" "tuple" = some false)
theorem kit_lst : kitB (tyD d) "list" = some (isLstD d) := by
  cases d
  · exact (by decide +kernel : kitB "NoneType" "list" = some false)
  · exact (by decide +kernel : kitB "bool" "list" = some false)
  · exact (by decide +kernel : kitB "int" "list" = some false)
  · exact (by decide +kernel : kitB "str" "list" = some false)
  · exact (by decide +kernel : kitB "list" "list" = some true)
  · exact (by decide +kernel : kitB "tuple" "list" = some false)
  · exact (by decide +kernel : kitB "dict" "list" = some false)
/-! texts of ints -/
abbrev rStrI : List V → Hp → VK → Prop := fun xs H Q => ∃ i : Int, xs = [.int i] ∧ i.natAbs.log2 < 1920 ∧ Q (.str (toString i)) H
theorem ev_strI {i : Int} (ha : RdD K w ta δ (.int i)) (h : i.natAbs.log2 < 1920) : EvD K w (tCB rStrI (tCons ta tNil)) δ (.str (toString i)) :=
  rd_call (ra_cons ha ra_nil) (fun H => .str _) fun H vs h' Q q => by
    obtain ⟨v, rfl, r⟩ := da1 h'
    cases r
    exact ⟨i, rfl, h, q⟩
end
/-! the rules with the written part named: within a comprehension's block too -/
section
variable {X : Cx} {K : PySem.W.Frag} {w : World} {tg : Expr}
theorem k_eq (hu : X.A.units + 64 < cLine) (e : X.K = K := by rfl) : OpR X (compareOp .Eq) (rEqD K) := by subst e; exact op_eqD hu
theorem k_ne (hu : X.A.units + 64 < cLine) (e : X.K = K := by rfl) : OpR X (compareOp .NotEq) (rNeD K) := by subst e; exact op_neD hu
theorem k_in (e : X.K = K := by rfl) : OpR X (compareOp .In) (rIn K false) := by subst e; exact op_in_seq
theorem k_notin (e : X.K = K := by rfl) : OpR X (compareOp .NotIn) (rIn K true) := by subst e; exact op_notIn_seq
theorem k_ixL (e : X.K = K := by rfl) : IxR X (rIxL K) := by subst e; exact ix_list
theorem k_ixT (e : X.K = K := by rfl) : IxR X (rIxT K) := by subst e; exact ix_tup
theorem k_slL (e : X.K = K := by rfl) : SlR X (rSlL K) := by subst e; exact sl_list
theorem k_slT (e : X.K = K := by rfl) : SlR X (rSlN K) := by subst e; exact sl_tupN
theorem k_len (e : X.K = K := by rfl) : CallR X (.builtin "len") (rLen K) := by subst e; exact call_len_seq
theorem k_list (e : X.K = K := by rfl) : CallR X (.type "list") (rLstOf K) := by subst e; exact call_list_of
theorem k_tuple (e : X.K = K := by rfl) : CallR X (.type "tuple") (rTupOfN K) := by subst e; exact cr_tupOfN
theorem k_isi (e : X.K = K := by rfl) : CallR X (.builtin "isinstance") (rIsi K) := by subst e; exact call_isi
theorem k_sorted (e : X.K = K := by rfl) : CallR X (.builtin "sorted") (rSortedI K) := by subst e; exact cr_sortedI
theorem k_sum (hc : X.calm = true) (e : X.K = K := by rfl) : CallR X (.builtin "sum") (rSum K) := by subst e; exact cr_sum hc
theorem k_catL (e : X.K = K := by rfl) : OpR X (binaryOp .Add) (rCatL K) := by subst e; exact op_catL
theorem k_catT (e : X.K = K := by rfl) : OpR X (binaryOp .Add) (rCatN K) := by subst e; exact op_catN
theorem k_pil {l : Expr} {tl : TE} (hl : PE X l tl) (e : X.K = K := by rfl) : PI X tg l (iList K tl) := by subst e; exact pi_list hl
theorem k_pit {l : Expr} {tl : TE} (hl : PE X l tl) (e : X.K = K := by rfl) : PI X tg l (iTup K tl) := by subst e; exact pi_tup hl
theorem k_sin (e : X.w = w := by rfl) : OpR X (compareOp .In) (rSIn w) := by subst e; exact or_sin
theorem k_snotin (e : X.w = w := by rfl) : OpR X (compareOp .NotIn) (rSNotIn w) := by subst e; exact or_snotin
theorem k_sortedSet (hc : X.calm = true) (e : X.w = w := by rfl) : CallR X (.builtin "sorted") (rSortedSet w) := by subst e; exact cr_sortedSet hc
end
end MU

namespace MU
open PySem PySem.Spec PyProof.Rows L2
/-! enumerate over a tuple -/
theorem enumNew {v : Value} {o : Obj} {G : Heap → Prop} (B : Begins v o G) :
    Meets (Builtin.«enumerate.__new__» ⟨[.type "enumerate", v], []⟩) (fun _ R s => G s.heap ∧
      R (.ok (.ret (.ref (s.heap.push o).objs.size))) { s with heap := (s.heap.push o).push { cls := .type "enumerate", data := .fields #[.none, .bool false, .ref s.heap.objs.size, rawInt 0, .none, .none] } }) :=
  .of_wp fun prog w A R s hh => by
    obtain ⟨hp, g, d, tk, os⟩ := s
    obtain ⟨g1, h⟩ := hh
    have hsub := sub_enumerate
    have walk : ∀ {A' : Around} {E : Value → Shared → Prop} {Q : Value → Shared → Prop}, Q (.ref hp.objs.size) ⟨hp.push o, g, d, tk, os⟩ → wpAny (model prog w) A' (pyIter v) Q E ⟨hp, g, d, tk, os⟩ := fun q => B.iter prog w _ _ _ _ g1 q
    wp_walk using walk
    refine wpAny_stack_any fun _ => wpAny_pure ?_
    split
    · rename_i c _ _ _ _ _
      cases (c == Value.type "enumerate") <;> (wp_walk using walk; exact ⟨_, rfl, h⟩)
    · wp_walk using walk
      exact ⟨_, rfl, h⟩
theorem enumCall {prog : Program} {w : World} {A : Around} {E : Value → Shared → Prop} {s : Shared} {v : Value} {o : Obj} {G : Heap → Prop} {Q : Value → Shared → Prop} (B : Begins v o G) (g1 : G s.heap)
    (h : ∀ h', IsEnum h' (s.heap.objs.size + 1) s.heap.objs.size 0 .none → h'.get? s.heap.objs.size = some o → (∀ b u, s.heap.get? b = some u → h'.get? b = some u) → Q (.ref (s.heap.objs.size + 1)) { s with heap := h' }) :
    wpAny (model prog w) A (call (.type "enumerate") [v]) Q E s := by
  have sz : (s.heap.push o).objs.size = s.heap.objs.size + 1 := Heap.size_push ..
  have en : IsEnum ((s.heap.push o).push { cls := .type "enumerate", data := .fields #[.none, .bool false, .ref s.heap.objs.size, rawInt 0, .none, .none] }) (s.heap.objs.size + 1) s.heap.objs.size 0 .none := by
    rw [← sz]; exact Heap.get?_push_size _ rfl
  refine callType_new F.called_enumerate (by decide) (F.typeCall_enumerate_1 _) (F.newCall_enumerate_1 _) (fun obj => F.args_object_init_2 obj _) F.entry_enumerate_new (enumNew B) ⟨g1, ?_⟩
  show _ ∧ _
  rw [sz]
  exact ⟨⟨_, en, rfl⟩, h _ en (Heap.get?_push_of_some _ (Heap.get?_push_size _ B.free)) fun b u x => Heap.get?_push_of_some _ (Heap.get?_push_of_some _ x)⟩
def Iet (K : PySem.W.Frag) (a : Addr) : It :=
  ⟨fun i H => ∃ (xs : List V) (x : V), SqT K H a xs ∧ xs[i]? = some x, fun i H v H' => ∃ T x, ∃ o : Obj, v = .ref T ∧ H T = none ∧ o.dict = none ∧ H' = upd H T (.frz o (.tup [.int (i : Nat), x])) ∧ ∀ xs, SqT K H a xs → xs[i]? = some x, fun i H => ∃ xs : List V, SqT K H a xs ∧ xs.length ≤ i⟩
theorem turn_enumT {P : Program} {w : World} {K : PySem.W.Frag} {elts : List Expr} {kk : Nat} {tpos : Pos} (a e it : Addr) :
    Turn P w K (.Tuple elts kk tpos) (Iet K a) [e, it] e (fun i h => (∃ old, IsEnum h e it ((i : Nat) : Int) old) ∧ h.IsTupleIter it a i ∧ e ≠ it) where
  mem := by simp
  obj := fun i h st b hb => by
    obtain ⟨⟨old, he⟩, ⟨o, ho, hc, hd⟩, _⟩ := st
    have z : b = e ∨ b = it := by simpa using hb
    rcases z with z | z <;> subst z
    · exact ⟨_, he, fun v q => nomatch q⟩
    · exact ⟨o, ho, fun v q => by rw [hd] at q; cases q⟩
  keep := fun i h h' ⟨⟨old, he⟩, hi, ne⟩ k => ⟨⟨old, k e (by simp) _ he⟩, hi.at fun o q => k it (by simp) o q, ne⟩
  item := by
    intro X hP hw hK hc i pins s σ H E I hf st hg
    subst hP hw hK
    obtain ⟨⟨old, he⟩, hit, ne⟩ := st
    obtain ⟨xs, x, hq, hx⟩ := hg
    obtain ⟨its, rv, p, hz⟩ := I.tuple hq
    obtain ⟨u, hu, ru⟩ := rv.get hx
    have p1 : s.heap.IsTuple a its.toArray := p
    have ea : e ≠ a := fun z => by
      obtain ⟨o, ho, hcl, _⟩ := p1
      subst z
      have := ho.symm.trans he
      cases this
      simp at hcl
    have ita : a ≠ it := fun z => by
      obtain ⟨o, ho, hcl, _⟩ := p1
      obtain ⟨o2, ho2, hcl2, _⟩ := hit
      subst z
      cases ho.symm.trans ho2
      rw [hcl] at hcl2
      simp at hcl2
    have hel : e < s.heap.objs.size :=
      Heap.lt_size he
    have hil : it < s.heap.objs.size := hit.elim fun _ q => Heap.lt_size q.1
    have lt : i < its.toArray.size := by
      have := (List.getElem?_eq_some_iff.mp hu).1
      simpa using this
    refine wpAny_pyNext_enum_itemD (Draws.tuple (A := X.A.in1) (I.ok.hd hc) it a ita its.toArray) he ⟨hit, p1⟩ lt ne (by simp [ne, ea]) fun y h' tk hy ho st1 hT hsz hk => ?_
    have yu : y = u := by
      have : its[i]? = some y := by simpa using hy
      rw [hu] at this
      exact (Option.some.inj this).symm
    subst yu
    refine ⟨_, rfl, wpAny_letOwnedTupleGo_enum (s := { s with heap := h', toks := tk + 1 }) ho fun h2 he' sb => ?_⟩
    have hT2 : h2.get? s.heap.objs.size = some { cls := .type "tuple", data := .seq #[.int i tk, y] } := (sb.2 _ (Nat.ne_of_gt hel)).trans hT
    have new : ObjOk X.prog X.w (upd H s.heap.objs.size (.frz { cls := .type "tuple", data := .seq #[.int i tk, y] } (.tup [.int (i : Nat), x]))) h2 s.heap.objs.size (.frz { cls := .type "tuple", data := .seq #[.int i tk, y] } (.tup [.int (i : Nat), x])) :=
      ⟨hT2, by show 2 ≤ sizeLine; decide, [.int i tk, y], .cons ⟨_, rfl⟩ (.cons ru .nil), ⟨_, hT2, rfl, _, rfl⟩⟩
    have I1 : Inv X pins σ (upd H s.heap.objs.size (.frz { cls := .type "tuple", data := .seq #[.int i tk, y] } (.tup [.int (i : Nat), x]))) { s with heap := h2, toks := tk + 1 } :=
      I.turnedNew (ch := [e, it]) (fun c oc away q => (sb.2 c (fun z => away (by simp [z]))).trans (hk c oc (fun z => away (by simp [z])) (fun z => away (by simp [z])) q)) hf (Nat.le_refl _) new
    refine ⟨.ref s.heap.objs.size, _, I1, rfl, ⟨_, x, _, rfl, I.hok.fresh (Nat.le_refl _), rfl, rfl, fun ys hy' => by rw [I.tuple_inj hy' hq]; exact hx⟩, ⟨⟨y, ?_⟩, st1.1.at fun o q => (sb.2 it (Ne.symm ne)).trans q, ne⟩, fun b hb => ?_⟩
    · rw [show ((i + 1 : Nat) : Int) = (i : Int) + 1 from by omega]; exact he'
    · have lb : b < s.heap.objs.size := by
        have z : b = e ∨ b = it := by simpa using hb
        rcases z with z | z <;> subst z <;> assumption
      rw [upd_ne (Nat.ne_of_lt lb)]
      exact (hf b hb).1
  done := by
    intro X hP hw hK hc i pins s σ H E I hf st hg
    subst hP hw hK
    obtain ⟨⟨old, he⟩, hit, ne⟩ := st
    obtain ⟨xs, hq, hx⟩ := hg
    obtain ⟨its, rv, p, hz⟩ := I.tuple hq
    have p1 : s.heap.IsTuple a its.toArray := p
    obtain ⟨f0, f1, f2, f3, f4, f5⟩ := hf it (by simp)
    have hl := rv.length
    have D : wpAny (model X.prog X.w) X.A (pyNext (.ref e)) (fun o s' => o = none ∧ Inv X pins σ H s') E s := by
      have hTy : s.TypeIs (.ref e) "enumerate" := ⟨_, he, rfl⟩
      unfold pyNext
      refine wpAny_bind (wpAny_attempt (wpAny_callSpecial?_slot (name := Str.ofString "__next__") hTy F.slot_enumerate_next (wpAny_call_entry F.slot_enumerate_next hTy F.entry_enumerate_next ?_ (F.args_enumerate_next_1 _))))
      show wpAny _ _ (field (.ref e) 2 >>= _) _ _ _
      refine wpAny_bind (wpAny_field he rfl (x := .ref it) rfl ?_)
      refine wpAny_bind (wpAny_nextOf_tuple_end (A := X.A.in1) (I.ok.hd hc) hit p1 (by simp; omega) fun h' x eb hx' => ?_)
      obtain ⟨o, ho, hcl⟩ := hx'
      refine wpAny_bind (wpAny_isInstance (T := "StopIteration") (b := true) ⟨o, ho, hcl⟩ isSubtype_stop ?_)
      exact wpAny_pure ⟨rfl, I.turned (t' := s.toks) (fun b o hb q => eb b o hb q) f0 f1 f3 f4 f5⟩
    exact D
  self := fun _ _ _ _ _ st h => st.1.elim fun _ he => wpAny_pyIter_enum he h
def iEnT (K : PySem.W.Frag) (ta : TA) : TI := fun σ H R => ta σ H fun vs H1 => ∃ a xs, vs = [.ref a] ∧ SqT K H1 a xs ∧ R (Iet K a) H1
theorem pi_enumT {X : Cx} {e : Expr} {ta : TA} {p pos tpos : Pos} {elts : List Expr} {kk : Nat} (hg : Gl X "enumerate") (hm : X.mg "enumerate" = none) (ha : PA X [e] ta) (hs : starEach [e] X.env = [(false, eval e X.env)] := by rfl) :
    PI X (.Tuple elts kk tpos) (.Call (.Name "enumerate" p) [e] [] pos) (iEnT X.K ta) := by
  refine ⟨fun pins s σ H R I h => ?_⟩
  refine Call_ (ld_blt I hg hm boot_enumerate (callWith_type1 (thn (ha.run pos pins s σ H _ I h) fun us s1 ⟨vs, H1, I1, r1, q1⟩ => ?_) hs rfl))
  obtain ⟨a, xs, ex, hq, q⟩ := q1
  subst ex
  cases r1 with
  | cons r rr =>
    cases rr
    cases r
    obtain ⟨its, rv, p', hz⟩ := I1.tuple hq
    refine enumCall (begins_tuple a its.toArray) p' fun h' he hit hk => wpAny_pyIter_enum he ?_
    have I2 : Inv X pins σ H1 { s1 with heap := h' } :=
      I1.kept (t' := s1.toks) hk
    refine ⟨s1.heap.objs.size + 1, [s1.heap.objs.size + 1, s1.heap.objs.size], _, _, H1, rfl, I2, turn_enumT a (s1.heap.objs.size + 1) s1.heap.objs.size, ⟨⟨.none, he⟩, ⟨_, hit, rfl, rfl⟩, Nat.succ_ne_self _⟩, fun b hb => ?_, q⟩
    have hle : s1.heap.objs.size ≤ b := by
      have z : b = s1.heap.objs.size + 1 ∨ b = s1.heap.objs.size := by simpa using hb
      rcases z with z | z <;> rw [z]
      · exact Nat.le_add_right _ _
      · exact Nat.le_refl _
    exact I1.fpOk hle (I1.hok.fresh hle)
end MU

namespace MU
open PySem PySem.Spec PyProof.Rows L2
/-! a set whose members are ints, texts and None -/
def SetNo (w : World) (a : Addr) (S : Option Key → Bool) (n : Nat) : HO := .ext fun h => ∀ P : Program, h.SetOf (noneKind P w) a S n
def nkV : Option Key → V
  | none => .non
  | some k => kV k
theorem nk_is (P : Program) (w : World) {k : Option Key} {u : Value} (r : RelV (nkV k) u) : nkIs k u = true ∧ u.scannable = true := by
  cases k with
  | none =>
    obtain rfl : u = Value.none := r
    exact ⟨rfl, rfl⟩
  | some k => exact ⟨kV_is (P := P) (w := w) (k := k) r, key_scan (k := k) r⟩
section
variable {X : Cx}
theorem setNo_new {w : World} {P : Program} {H : Hp} {h : Heap} {a : Addr} {S : Option Key → Bool} {n : Nat} (R : h.SetOf (noneKind P w) a S n) : ObjOk P w H h a (SetNo w a S n) := by
  have ⟨o, _, _, _, ho, _⟩ := R
  refine ⟨fun _ => R, ⟨o, ho⟩, fun h1 h2 p k P' => ?_⟩
  obtain ⟨o1, es, ep, t, h3, r⟩ := p P'
  exact ⟨o1, es, ep, t, k o1 h3, r⟩
theorem setNo_get {pins : List (Addr × Obj)} {σ : L2.St} {H : Hp} {s : Shared} {a : Addr} {S : Option Key → Bool} {n : Nat} (I : Inv X pins σ H s) (ha : H a = some (SetNo X.w a S n)) : s.heap.SetOf (noneKind X.prog X.w) a S n := (I.hok a _ ha).1 X.prog
def rSet0N (w : World) : List V → Hp → VK → Prop := fun xs H Q => xs = [] ∧ ∀ p, H p = none → Q (.ref p) (upd H p (SetNo w p (fun _ => false) 0))
theorem cr_set0N : CallR X (.type "set") (rSet0N X.w) := by
  intro pins s σ H xs us Q I r ⟨e, q⟩
  subst e
  cases r
  refine setR_new fun _ => ?_
  have fresh : (s.heap.push { cls := .type "set", dict := none, data := .set #[] 0 (.fresh 0 0 (!X.w.params.followText "set-order")) }).SetOf (noneKind X.prog X.w) s.heap.objs.size (fun _ => false) 0 :=
    ⟨_, #[], 0, _, Heap.get?_push_size _ rfl, ⟨rfl, rfl, rfl⟩, rfl, (fun _ z => by simp at z), (fun _ => by simp), by decide, by rfl, rfl⟩
  refine ⟨.ref _, _, I.laid (t' := s.toks) (fun b u e => Heap.get?_push_of_some _ e) (Nat.le_refl _) (setNo_new (H := upd H s.heap.objs.size (SetNo X.w s.heap.objs.size (fun _ => false) 0)) fresh), rfl, ?_⟩
  exact q _ (I.hok.fresh (Nat.le_refl _))
def rSAddN (w : World) : V → List V → Hp → VK → Prop := fun x xs H Q => ∃ (a : Addr) (k : Option Key) (S : Option Key → Bool) (n : Nat), x = V.ref a ∧ xs = [nkV k] ∧ H a = some (SetNo w a S n) ∧ n + 1 < scanBound ∧
  Q .non (upd H a (SetNo w a (fun j => S j || decide (j = k)) (if S k = true then n else n + 1)))
def tSAddN (w : World) (to : TE) (t : TA) : TE := fun σ H Q => to σ H fun x H1 => (∃ a S n, x = V.ref a ∧ H1 a = some (SetNo w a S n)) ∧ t σ H1 fun xs H2 => rSAddN w x xs H2 Q
theorem saddN {pins : List (Addr × Obj)} {σ : L2.St} {H : Hp} {s : Shared} {xs : List V} {us : List Value} {a : Addr} {Q : VK} (I : Inv X pins σ H s) (r : Vals xs us) (h : rSAddN X.w (.ref a) xs H Q) :
    wpAny (model X.prog X.w) X.A (call (.builtin "set.add") (.ref a :: us)) (EP X pins σ Q) X.xe s := by
  obtain ⟨a', k, S, n, e, rfl, ha, room, q⟩ := h
  cases e
  cases r with
  | cons ry rt =>
    cases rt
    have kk := nk_is X.prog X.w ry
    refine call_set_add (knd := noneKind X.prog X.w) kk.1 kk.2 (setNo_get I ha) room fun h' sb new => ?_
    have live : ∃ u, h'.get? a = some u := by
      have ⟨o, _, _, _, ho, _⟩ := new
      exact ⟨o, ho⟩
    refine ⟨.non, _, I.write (e := a) (t' := s.toks + 1) (by rw [ha]; trivial) (.inl rfl) (fun b u hb hu => (sb.2 b hb).trans hu) live (setNo_new (H := upd H a (SetNo X.w a (fun j => S j || decide (j = k)) (if S k = true then n else n + 1))) new), rfl, q⟩
theorem pe_saddN {o e : Expr} {to : TE} {t : TA} {apos cpos : Pos} (ho : PE X o to) (ha : PA X [e] t)
    (base_ : attributeBase o "add" X.env (eval o X.env) = eval o X.env := by rfl)
    (hfew : ((backTo cpos (starEach [e] X.env)).all (fun x => !x.1) && (backToKw cpos (keywordEach [] X.env)).all (fun x => x.1.isSome) && decide ([e].length + ([] : List Keyword).length + (if ([] : List Keyword).isEmpty then 0 else 1) < 30)) = true := by rfl)
    (hline : (apos.endLine == cpos.line) = true := by rfl) (hs : starEach [e] X.env = (false, eval e X.env) :: starEach [] X.env := by rfl) (hplain : (backTo cpos (starEach ([] : List Expr) X.env)).any (·.1) = false := by rfl) :
    PE X (.Call (.Attribute o "add" apos) [e] [] cpos) (tSAddN X.w to t) := by
  refine ⟨fun pins s σ H Q I h => ?_⟩
  refine wpAny_Call_method_late base_ hfew hline rfl (thn (ho.run pins s σ H _ I h) fun v s1 ⟨x, H1, I1, r1, ⟨a, S, n, ex, ea⟩, q1⟩ => ?_)
  subst ex
  have hS := setNo_get I1 ea
  cases r1
  refine ⟨"set", "set.add", PySem.F.plainAttrs_set, PySem.F.slot_set_add, PySem.F.type_set_add, hS.typeIs, hS.noDict, ?_⟩
  have hA := ha.run cpos pins s1 σ H1 _ I1 q1
  rw [hs] at hA ⊢
  refine Calls.callWith_builtin (by show (false || (backTo cpos (starEach ([] : List Expr) X.env)).any (·.1)) = false; rw [hplain] <;> rfl) (Calls.evalArgs_plain (thn hA fun us s2 ⟨vs, H2, I2, r2, q2⟩ => saddN I2 r2 q2))
def rSInN (w : World) (neg : Bool) : R2 := fun x y H Q => ∃ (k : Option Key) (a : Addr) (S : Option Key → Bool) (n : Nat), x = nkV k ∧ y = V.ref a ∧ H a = some (SetNo w a S n) ∧ Q (.bl (if neg then !S k else S k)) H
theorem or_sinN : OpR X (compareOp .In) (rSInN X.w false) := by
  intro pins s σ H x y v u Q I rx ry ⟨k, a, S, n, ex, ey, ha, q⟩
  subst ex ey
  cases ry
  exact wpAny_inSet_of (knd := noneKind X.prog X.w) (nk_is X.prog X.w rx).1 (nk_is X.prog X.w rx).2 (setNo_get I ha) ⟨.bl (S k), H, I.tok _, rfl, q⟩
theorem or_snotinN : OpR X (compareOp .NotIn) (rSInN X.w true) := by
  intro pins s σ H x y v u Q I rx ry ⟨k, a, S, n, ex, ey, ha, q⟩
  subst ex ey
  cases ry
  exact wpAny_notInSet_of (knd := noneKind X.prog X.w) (nk_is X.prog X.w rx).1 (nk_is X.prog X.w rx).2 (setNo_get I ha) ⟨.bl (!S k), H, I.tok _, rfl, q⟩
/-! t.index(x), the items told by eqV -/
def rTIndex (K : PySem.W.Frag) : V → List V → Hp → VK → Prop := fun x xs H Q => ∃ (a : Addr) (ys : List V) (y : V) (j : Nat) (z : V), x = V.ref a ∧ xs = [y] ∧ SqT K H a ys ∧ flatV y = true ∧ ys.all flatV = true ∧ ys[j]? = some z ∧ eqV z y = true ∧
  (∀ (i : Nat) (u : V), i < j → ys[i]? = some u → eqV u y = false) ∧ Q (.int (j : Nat)) H
theorem mt_tindex : MtR X "tuple.index" (rTIndex X.K) := by
  intro pins s σ H x xs v us Q I rx rxs ⟨a, ys, y, j, z, ex, exs, hq, fy, fys, hz, ez, no, q⟩
  subst ex exs
  cases rx
  cases rxs with
  | cons ry rt =>
    rename_i uy ut
    cases rt
    obtain ⟨its, rv, pl, hsz⟩ := I.tuple hq
    obtain ⟨⟨cls, dd, dt, sl⟩, ho, hc, n, hd⟩ := pl
    simp only at hc hd
    subst hc hd
    have at_ : ∀ (m : Nat) (hm : m < its.toArray.size) (z' : V), ys[m]? = some z' → eqU y its.toArray[m] = eqV z' y := fun m hm z' e => by
      obtain ⟨u, hu, ru⟩ := rv.get e
      have e1 : its.toArray[m] = u := by
        obtain ⟨_, q⟩ := List.getElem?_eq_some_iff.mp hu
        simpa using q
      rw [e1]
      exact eqU_of ru (flat_at fys e)
    have len := rv.length
    have hj : j < its.toArray.size := by
      have := (List.getElem?_eq_some_iff.mp hz).1
      simp
      omega
    refine call_meets PySem.F.slot_tuple_index ⟨_, ho, rfl⟩ PySem.F.entry_tuple_index (PySem.F.args_tuple_index_2 _ _) (TI.tuple_indexAt a its.toArray n dd sl uy (eqU y) j hj ?_ ?_)
      ⟨ho, fun w hw => mem_eqAt ry fy rv fys w (by simpa using hw), ⟨.int (j : Nat), H, I.tok _, ⟨_, rfl⟩, q⟩⟩
    · rw [at_ j hj z hz]
      exact ez
    · intro m hm hmj
      have l : m < ys.length := by
        have := (List.getElem?_eq_some_iff.mp hz).1
        omega
      rw [at_ m hm _ (List.getElem?_eq_getElem l)]
      exact no m _ hmj (List.getElem?_eq_getElem l)
end
end MU

namespace MU
open PySem PySem.Spec PyProof.Rows L2
open PySem.W (codeIn)
/-! ## defs that show values: nothing is being shown where they are called -/
structure FnG (P : Program) (w : World) (K : PySem.W.Frag) (mg : Str → Option Value) (base : Heap) (k : Nat) (f : Addr) (fd : FuncData) (ps : List Str) (sp : Sp) : Prop where
  len : ∀ vs H Q E,
        sp vs H Q E → vs.length = ps.length
  run : ∀ (A : Around), A.guards = some [] → ∀ (outer : List Env) (s : Shared) (H : Hp) (args : Args) (us : List Value) (vs : List V) (Q : VK) (E : XK), Room k A → Env0 P w K mg base A outer s H → BindsTo s fd args (ps.zip us) → Vals vs us → sp vs H Q E →
    codeAny (model P w) A (.call (.ref f) args) (CR CX0 outer P w H s Q E) s
section
variable {P : Program} {w : World} {K : PySem.W.Frag} {mg : Str → Option Value} {base : Heap}
theorem fun_okG {x qual : Str} {st : Stmt} {f : Addr} {fd : FuncData} {N ps : List Str} {k : Nat} {sp : Sp} (F : Fun K x qual st f fd) (S : FnScope N ps (defScope st)) (len : ∀ vs H Q E, sp vs H Q E → vs.length = ps.length)
    (hb : ∀ (cdv : Value), codeIn K cdv qual = true → ∀ (A : Around) (outer : List Env) (s : Shared) (H : Hp) (vs : List V) (Q : VK) (E : XK), A.guards = some [] → Room k (A.deeper (PyProof.Rows.envOfC qual (defScope st) s.heap.objs.size f cdv)) → sp vs H Q E →
      ∃ t, PSs (cxOf CX0 P w K mg base N qual (defScope st) f cdv A outer s H E).nox (defBody st) t ∧ t { nx := fun _ H' => Q .non H', rt := Q } (L2.start N vs) H) : FnG P w K mg base (k + 1) f fd ps sp := by
  obtain ⟨_, _, _, _, _, _, cdv, _, _, e0, lk, hcd⟩ := F.ex
  subst e0
  refine ⟨len, fun A hg outer s H args us vs Q E room env0 bind rel want => ?_⟩
  have up : ∀ b o, base.get? b = some o → s.heap.get? b = some o := fun b o e => (env0.bs b o e).1
  have inK : K.In s.heap := env0.mod.kin.keeps up
  refine codeAny_call_function room.depth (inK _ _ lk) rfl S.co S.gen rfl (PySem.W.codeRec_of inK hcd) (bind _ _ _ _ ?_)
  refine wpAny_newFunctionEnv_cells S.kind (fun ⟨n, v⟩ hy => ?_) fun env he s1 call => ?_
  · exact (S.par n (List.of_mem_zip hy).1).imp id fun q => ⟨q, PySem.W.cellsFrom_some _ _ _ (.inl q)⟩
  subst he
  obtain ⟨t, derived, ends⟩ := hb cdv hcd A outer s H vs Q E hg (room.deeper _) want
  have I := inv_start (CX := CX0) (E := E) S room.hd env0 (len _ _ _ _ want) rel call
  refine ⟨(env0.mod.nolimit.keeps up).keeps call.toInCall.keep, codeAny_func (wpAny_mono (derived.nox.run [] s1 (L2.start N vs) H _ I ends) (fun fl s' got => ?_) fun _ _ z => z)⟩
  match fl, got with
  | .ret u, ⟨v, σ', H', J, rv, q⟩ => exact ⟨v, H', J.os, J.bare, J.base, J.hok, rv, q⟩
  | .next, ⟨σ', H', J, q⟩ => exact ⟨V.non, H', J.os, J.bare, J.base, J.hok, (rfl : Value.none = Value.none), q⟩
  | .brk, ⟨_, _, _, q⟩ => exact q.elim
  | .cont, ⟨_, _, _, q⟩ => exact q.elim
end
section
variable {X : Cx} {k : Nat} {f : Addr} {fd : FuncData} {ps : List Str} {sp : Sp} {E : XK} {x : Str} {p pos : Pos} {e : Expr} {es : List Expr} {t : TA}
theorem run_fnG {pins : List (Addr × Obj)} {σ : L2.St} {H : Hp} {s : Shared} {Q : VK} {us : List Value} {vs : List V} (F : FnG X.prog X.w X.K X.mg X.base k f fd ps sp) (hg : X.A.guards = some []) (hr : Room k X.A) (hb : Binds X.K fd ps []) (I : Inv X pins σ H s) (r : Vals vs us) (h : sp vs H Q E) :
    wpAny (model X.prog X.w) X.A (call
          (.ref f) us) (EP X pins σ Q) X.xe s := by
  have hb2 := hb s us I.kIn (by rw [List.append_nil, ← r.length]; exact F.len _ _ _ _ h)
  rw [List.append_nil] at hb2
  refine wpAny_call (codeAny_mono (F.run X.A hg X.stack s H _ us vs Q E hr I.env0 hb2 r h) fun out s' got => ?_)
  match out, got with
  | .ok (.ret u), q => exact I.after q
  | .error _, q => exact q.elim
theorem pe_callG (F : FnG X.prog X.w X.K X.mg X.base k f fd ps sp) (hgd : X.A.guards = some []) (hr : Room k X.A) (hg : Gl X x) (hm : X.mg x = some (.ref f)) (hk : PySem.W.keepIn X.K (.ref f) = true) (hb : Binds X.K fd ps [])
    (ha : PA X (e :: es) t) (hdb : (x == ("__debug__" : Str)) = false := by decide) (he : starEach (e :: es) X.env = (false,
          eval e X.env) :: starEach es X.env := by rfl) (hpl : (backTo pos (starEach es X.env)).any (·.1) = false := by rfl) :
    PE X (.Call (.Name x p) (e :: es) [] pos) (tCall sp [] E0 t) :=
  ⟨fun pins s σ H Q I h => wpAny_Call_Name_kw (ld_glob I hg hm (PySem.W.callWith_K (h₀ := X.base) I.ok.mod.kin hk (thn (ha.run pos pins s σ H _ I h) fun us s1 ⟨vs, H1, I1, r, q⟩ => ⟨I1.kIn, run_fnG (E := E0) F hgd hr hb I1 r (by have q2 : sp (vs ++ []) H1 Q E0 := q; rw [List.append_nil] at q2; exact q2)⟩) he hpl) hdb)⟩
end
/-- the law's own call -/
theorem law_callG {P : Program} {w : World} {K : PySem.W.Frag} {mg mb : Str → Option Value} {k : Nat} {fa a : Addr} {fd : FuncData} {x : Str} {sp : Sp} {s1 : Shared} {vs : List Value} {ns : List Int}
    (KX : K.In s1.heap) (hns : s1.heap.Ns mainGlobals mg) (hb : s1.heap.Ns builtinsNs mb) (hbb : ∀ x : Str, x ≠ "__name__" → mb x = bootBuiltins x) (hlim : s1.heap.NoLimit) (hg : s1.gens = #[])
    (ha : s1.heap.get? a = some { cls := .type "list", data := .seq vs.toArray }) (hi : IntsAre vs ns) (hl : ns.length ≤ sizeLine) (hr : Room k callerA)
    (F : ∀ base : Heap, K.In base → base.Ns mainGlobals mg → FnG P w K mg base k fa fd [x] sp) (hbind : ∀ (s : Shared) (u : Value), BindsTo s fd ⟨[u], []⟩ [(x, u)])
    (hsp : ∀ H : Hp, Only H → SqL K H a (ns.map V.int) → sp [.ref a] H (fun v _ => v = .bl true) fun _ _ _ => False) :
    codeAny (model P w) callerA (.call (.ref fa) ⟨[.ref a], []⟩) (fun r s' => r = .ok (.ret (.bool true)) ∧ OldK s1.heap s'.heap ∧ s'.os = s1.os ∧ AllBare s'.gens) s1 := by
  let H : Hp := fun b => if b = a ∧ K.lookup a = none then some (.frz { cls := .type "list", data := .seq vs.toArray } (.lst (ns.map V.int))) else none
  have at_ : ∀ b u, H b = some u → b = a ∧ K.lookup a = none ∧ u = .frz { cls := .type "list", data := .seq vs.toArray } (.lst (ns.map V.int)) := fun b u z => by
    by_cases c : b = a ∧ K.lookup a = none
    · have y := (if_pos c).symm.trans z
      cases y
      exact ⟨c.1, c.2, rfl⟩
    · have y := (if_neg c).symm.trans z
      cases y
  have off : ∀ b, (∀ u, H b ≠ some u) → H b = none := fun b n => by
    cases q : H b with
    | none => rfl
    | some u => exact absurd q (n u)
  have seq : SqL K H a (ns.map V.int) := by
    cases lk : K.lookup a with
    | none => exact .inl (.inr ⟨_, if_pos ⟨rfl, lk⟩⟩)
    | some o =>
      have same := KX a o lk
      rw [ha] at same
      cases same
      exact .inr ⟨_, vs.toArray, _, lk, rfl, rfl, rfl, by rw [List.size_toArray, hi.length]; exact hl, by simpa using vals_ints hi⟩
  have ok : HOk P w H s1.heap := fun b u z => by
    obtain ⟨rfl, _, rfl⟩ := at_ b u z
    exact ⟨ha, by rw [List.length_map]; exact hl, vs, _, vals_ints hi, ha⟩
  have notK : ∀ b o, K.lookup b = some o → H b = none := fun b o e => off b fun u z => by
    obtain ⟨rfl, n, _⟩ := at_ b u z
    rw [n] at e
    cases e
  have notD : ∀ {b : Addr} {o : Obj} {es : Array DictEntry} {ep : Nat}, s1.heap.get? b = some o → o.data = .dict es ep → H b = none := fun {b o es ep} e d => off b fun u z => by
    obtain ⟨rfl, _, _⟩ := at_ b u z
    rw [ha] at e
    cases e
    cases d
  have ns_ : ∀ {b : Addr} {m : Str → Option Value}, s1.heap.Ns b m → (hidT s1.heap H).Ns b m := fun ⟨o, es, ep, e, d, r⟩ => ⟨o, es, ep, hidT_get e (notD e d), d, r⟩
  have inK : K.In (hidT s1.heap H) := fun b o e => hidT_get (KX b o e) (notK b o e)
  have envs : Env0 P w K mg (hidT s1.heap H) callerA [] s1 H :=
    ⟨rfl, ⟨inK, ns_ hns, ⟨mb, ns_ hb, hbb⟩, hlim.elim fun mc h => ⟨mc, ns_ h.1, h.2⟩⟩, fun b o e => of_hidT e, Nat.le_of_eq (hidT_size _ _), trivial, fun b hb => absurd (show b ∈ ([] : List Addr) from hb) List.not_mem_nil, ok, .of_eq hg⟩
  have only : Only H := fun b => by
    cases q : H b with
    | none => exact .inl rfl
    | some u =>
      obtain ⟨_, _, rfl⟩ := at_ b u q
      exact .inr ⟨_, _, rfl⟩
  refine codeAny_mono ((F _ inK (ns_ hns)).run callerA rfl [] s1 H ⟨[.ref a], []⟩ [.ref a] [.ref a] _ _ hr envs (hbind s1 (.ref a)) (.cons rfl .nil) (hsp H only seq)) fun out s' got => ?_
  match out, got with
  | .error _, z => exact z.elim
  | .ok (.ret u), ⟨v, H', os, bare, un, ok', rv, q⟩ =>
    obtain rfl : v = .bl true := q
    obtain rfl : u = Value.bool true := rv
    refine ⟨rfl,
          OldK.of_keep fun b o e => ?_, os, bare⟩
    cases z : H b with
    | none => exact un.keep b o e z (fun y => absurd (show b ∈ ([] : List Addr) from y) List.not_mem_nil) (fun y => absurd (show b ∈ ([] : List Addr) from y) List.not_mem_nil)
    | some u =>
      obtain ⟨rfl, _, rfl⟩ := at_ b u z
      obtain ⟨e2, _⟩ := ok' b _ (un.frzs b _ _ z)
      rw [ha] at e
      cases e
      exact e2
theorem walk_ofG {l : PySem.W.OpenLaw} {n k : Nat} {q : Program} {loose : List Str} {XP : (Str → Option Value) → Heap → Prop} {YP : World → Heap → Prop} {d : DefRec} {K : Params → PySem.W.Frag} {sp : World → Sp} {x : Str}
    (hn : l.most = some n) (hn2 : n ≤ sizeLine) (hdf : d.params.defaults = []) (hr : Room k callerA) (hY : ∀ (w : World) (h : Heap),
          YP w h → (K w.params).In h)
    (F : ∀ (w : World) (mg : Str → Option Value) (fa : Addr) (h : Heap),
          (K w.params).In h → h.Ns mainGlobals mg → mg d.name = some (.ref fa) →
      ∃ fd : FuncData, (∀ (s : Shared) (u : Value), BindsTo s fd ⟨[u], []⟩ [(x, u)]) ∧ ∀ base : Heap, (K w.params).In base → base.Ns mainGlobals mg → FnG l.prog w (K w.params) mg base k fa fd [x] (sp w))
    (hsp : ∀ (w : World) (H : Hp) (a : Addr) (ns : List Int), ns.length ≤ n → Only H → SqL (K w.params) H a (ns.map V.int) → sp w [.ref a] H (fun v _ => v = .bl true) fun _ _ _ => False) :
    PySem.W.WalkO q loose XP YP l.row.toRowW
          d [] (fun f vs => PySem.call f vs) :=
  Att.attach_call hn hdf fun w s0 s1 mg mb fa o pm cd doc a vs ns G Y _ _ _ hmg hobj hints hlen hg => by
    obtain ⟨fd, bind, hF⟩ := F w mg fa _ (hY w _ Y) G.T.g hmg
    exact law_callG (hY w _ Y) G.T.g G.T.b G.T.builtins G.T.nolimit hg hobj hints (Nat.le_trans hlen hn2) hr hF bind fun H o1 o2 => hsp w H a ns hlen o1 o2
end MU

namespace MU
open PySem PySem.Spec PyProof.Rows L2
/-! t * k, k ≥ 1 -/
def rRepT1 (K : PySem.W.Frag) : R2 := fun x y H Q => ∃ l k xs, x = .ref l ∧ y = .int k ∧ SqT K H l xs ∧ xs ≠ [] ∧ 1 ≤ k ∧ k ≤ 1000 ∧ xs.length ≤ 1000 ∧ (k = 1 → Q (.ref l) H) ∧ (k ≠ 1 → ∀ p, H p = none → NewT H p (List.replicate k.toNat xs).flatten Q)
theorem tup_mul1' (l : Addr) (items : Array Value) (n : Nat) (dd : Option Addr) (sl : Array (Option Value)) (u : Tok) :
    Meets (Builtin.«tuple.__mul__» ⟨[.ref l, .int 1 u], []⟩) (fun _ R s => s.heap.get? l = some { cls := .type "tuple", dict := dd, data := .seq items n, slots := sl } ∧ R (.ok (.ret (Value.ref l))) s) :=
  .of_wp fun prog w A R s h => by
    obtain ⟨hp, g, d, tk, os⟩ := s
    obtain ⟨hl, h⟩ := h
    have f1 := AutoSeq1.idx_int
    have c0 : (decide ((1 : Int) < -(2 ^ 63)) || decide ((1 : Int) ≥ 2 ^ 63)) = false := by decide
    have c1 : (items.isEmpty || (1 : Int) == 1) = true := by rw [show ((1 : Int) == 1) = true from rfl, Bool.or_true]
    wp_walk using wpAny_loadPart' hl
    repeat (first
      | (refine wpAny_ite_false (decide_eq_false (fun z => Bool.false_ne_true (c0.symm.trans z))) ?_; wp_walk using wpAny_loadPart' hl)
      | (refine wpAny_ite_true (decide_eq_true (by rw [c1])) ?_; wp_walk using wpAny_loadPart' hl))
    exact ⟨_, rfl, h⟩
section
variable {X : Cx}
theorem op_repT1 : OpR X (binaryOp .Mult) (rRepT1 X.K) := by
  intro pins s σ H x y v u Q I rx ry ⟨l, k, xs, ex, ey, hT, hne, h1, h2, hz, q1, q2⟩
  by_cases c : k = 1
  · subst ex ey c
    cases rx
    obtain ⟨t, rfl⟩ := ry
    obtain ⟨its, r, ⟨⟨cls, dd, data,
          sl⟩, ho, hc, n, hd⟩, hs⟩ := I.tuple hT
    simp only at hc hd
    subst hc hd
    refine wpAny_binaryOp_repeat_ref (T := "tuple") (U := "int") (by decide) ⟨_, ho, rfl⟩ (fun s' => typeIs_int s' 1 t) noFill_tuple_mul F.fills_int_mul F.slot_int_rmul repeat_tuple F.slot_int_index.lookup
      (call_meets F.slot_int_rmul (typeIs_int s 1 t) F.entry_int_rmul (F.args_int_rmul_2 _ _) (int_rmul_tuple 1 t l its.toArray n dd sl) ⟨ho, rfl, ⟨_, ho, rfl⟩, ?_⟩)
    exact call_meets F.slot_tuple_mul ⟨_, ho, rfl⟩ F.entry_tuple_mul (F.args_tuple_mul_2 _ _) (tup_mul1' l its.toArray n dd sl t) ⟨ho, ⟨.ref l, H, I.tok s.toks, rfl, q1 rfl⟩⟩
  · subst ex ey
    cases rx
    obtain ⟨t, rfl⟩ := ry
    obtain ⟨its, r, ⟨⟨cls, dd, data,
          sl⟩, ho, hc, n, hd⟩, hs⟩ := I.tuple hT
    simp only at hc hd
    subst hc hd
    have len : its.toArray.size = xs.length := by rw [List.size_toArray]; exact r.length.symm
    have some_ : its.toArray.isEmpty = false := by
      cases its with
      | nil => cases r; exact absurd rfl hne
      | cons a b => rfl
    have flat : (List.replicate k.toNat its).flatten.length ≤ 1000000 := by
      rw [PyProof.Rows.lm_len_rep_flat, ← r.length]
      exact Nat.le_trans (Nat.mul_le_mul (show k.toNat ≤ 1000 by omega) hz) (by decide)
    have prod : ((its.toArray.size : Nat) : Int) * k ≤ 1000000 := by
      rw [len]
      exact Int.le_trans (Int.mul_le_mul_of_nonneg_right (show ((xs.length : Nat) : Int) ≤ 1000 by omega) (by omega)) (by omega)
    have e1 : (decide (k < -(2 ^ 63)) || decide (k ≥ 2 ^ 63)) = false := by rw [decide_eq_false (by omega), decide_eq_false (by omega)]; rfl
    have e2 : (its.toArray.isEmpty || k == 1) = false := by rw [some_, Bool.false_or]; exact beq_eq_false_iff_ne.mpr c
    have e3 : (decide (k ≤ 0) || its.toArray.isEmpty) = false := by rw [some_, Bool.or_false]; exact decide_eq_false (by omega)
    have e4 : Builtin.Tuple.tupleTooMany (((its.toArray.size : Nat) : Int) * k) = false := by
      unfold Builtin.Tuple.tupleTooMany
      rw [sizeLine_eq]
      exact decide_eq_false (by omega)
    have big : 1000000 ≤ sizeLine := by rw [sizeLine_eq]; decide
    refine wpAny_binaryOp_repeat_ref (T := "tuple") (U := "int") (by decide) ⟨_, ho,
          rfl⟩ (fun s' => typeIs_int s' k t) noFill_tuple_mul F.fills_int_mul F.slot_int_rmul repeat_tuple F.slot_int_index.lookup
      (call_meets F.slot_int_rmul (typeIs_int s k t) F.entry_int_rmul (F.args_int_rmul_2 _ _) (int_rmul_tuple k t l its.toArray n dd sl) ⟨ho, rfl, ⟨_, ho, rfl⟩, ?_⟩)
    refine call_meets F.slot_tuple_mul ⟨_, ho, rfl⟩ F.entry_tuple_mul (F.args_tuple_mul_2 _ _) (tuple_mulW l its.toArray n dd sl k t e1 e2 e3 (by omega) e4 (by rw [size_rep, List.size_toArray]; exact Nat.le_trans flat big)) ⟨ho, ?_⟩
    rw [size_rep]
    exact laidT (s := s) (h' := s.heap) (tk := s.toks) I (r.rep k.toNat) (by rw [(r.rep k.toNat).length]; exact Nat.le_trans flat big) (q2 c)
/-! repr(x), x data -/
def rRepr (K : PySem.W.Frag) : List V → Hp → VK → Prop := fun xs H Q => ∃ x d, xs = [x] ∧ Dp K H x d ∧ d.showable = true ∧ d.hasDict = false ∧ d.depth ≤ 60 ∧ d.shown.length ≤ sizeLine ∧ Q (.str d.shown) H
theorem cr_repr (hg : X.A.guards = some []) (hu : X.A.units + 64 < cLine) : CallR X (.builtin "repr") (rRepr X.K) := by
  intro pins s σ H xs us Q I r ⟨x, d, e, hd, hs, hn, hdp, hl, q⟩
  subst e
  cases r with
  | cons rx rt =>
    rename_i u ut
    cases rt
    obtain ⟨as, rd⟩ := Dp.reads I d x u hd rx
    have fin : ∀ (h' : Heap) (tk0 tk : Tok), (∀ b o, s.heap.get? b = some o → h'.get? b = some o) → EP X pins σ Q (.str d.shown tk0) { s with heap := h', toks := tk } := fun h' tk0 tk hk => ⟨.str d.shown, H, I.kept (t' := tk) hk, ⟨_, rfl⟩, q⟩
    cases rd with
    | int => exact PySem.P.repr_of_int (of_decide_eq_true hs) (fin s.heap _ _ fun _ _ e => e)
    | none => exact PySem.P.repr_of_none (fin s.heap _ _ fun _ _ e => e)
    | bool => exact PySem.P.repr_of_bool (fin s.heap _ _ fun _ _ e => e)
    | str => exact PySem.P.repr_of_str (fin s.heap _ _ fun _ _ e => e) hl
    | list h1 h2 h3 h4 => exact repr_of_reads' (.list h1 h2 h3 h4) hs (fun e => by rw [hn] at e; cases e) hg (by omega) (fun _ _ e => e) (fun h' tk0 tk hk => fin h' tk0 tk hk) hl
    | tuple h1 h2 h3 h4 => exact repr_of_reads' (.tuple h1 h2 h3 h4) hs (fun e => by rw [hn] at e; cases e) hg (by omega) (fun _ _ e => e) (fun h' tk0 tk hk => fin h' tk0 tk hk) hl
    | dict h1 h2 h3 h4 h5 => cases hn
end
end MU

namespace MU
open PySem PySem.Spec L2
section
variable {K : PySem.W.Frag} {w : World} {δ δ' : List Slot} {te ta tb : TE} {tt : TT} {t u : TS} {tz : TA} {d x y : PD} {ds es xs ys : List PD} {nx nx' mid bk ct : PN} {rt : List Slot → Ret → Prop} {g : TG} {wi : TI}
/-! enumerate -/
def enumD (ds : List PD) : List PD := ds.zipIdx.map fun p => .tuple [.int (p.2 : Nat), p.1]
theorem enum_len (ds : List PD) : (enumD ds).length = ds.length := by unfold enumD; rw [List.length_map, List.length_zipIdx]
theorem enum_at {i : Nat} (h : (enumD ds)[i]? = some x) : ∃ d, ds[i]? = some d ∧ x = .tuple [.int (i : Nat), d] := by
  unfold enumD at h
  rw [List.getElem?_map, List.getElem?_zipIdx] at h
  cases e : ds[i]? with
  | none => rw [e] at h; cases h
  | some d =>
    rw [e] at h
    refine ⟨d, rfl, ?_⟩
    have := (Option.some.inj h).symm
    rw [this, Nat.zero_add]
theorem yl_enumT {F : Hp} {a : Addr} {vs : List V} (hs : SqT K F a vs) (hd : DpAll K F vs ds) : Yl K (Iet K a) F (enumD ds) := fun F' H' f h i =>
  ⟨fun e he => by
    obtain ⟨d, e1, rfl⟩ := enum_at he
    obtain ⟨v, g1, g2⟩ := da_get hd e1
    have sq := sqt_up h (sqt_up f hs)
    refine ⟨⟨vs, v, sq, g1⟩, fun z H'' ⟨T, z1, o, ez, hT, ho, eH, same⟩ => ?_⟩
    have := same vs sq
    rw [g1] at this
    cases this
    subst ez eH
    exact ⟨upd F' T (.frz o (.tup [.int (i : Nat), v])), .frz h hT (ok_tup ho), .tup (.inl (.inr ⟨_, upd_same⟩)) (.cons (.int _) (.cons (dp_up (same_new (h.free hT)) _ _ (dp_up f _ _ g2)) .nil))⟩,
   fun l => ⟨vs, sqt_up h (sqt_up f hs), by rw [da_len hd]; rw [enum_len] at l; exact l⟩⟩
theorem it_enumT (h : EvD K w te δ (.tuple ds)) : ItD K w (iEnT K (tCons te tNil)) δ (enumD ds) := fun _ _ _ F H σ S R q =>
  h _ _ _ _ _ _ S _ fun v F2 H2 s e => by
    obtain ⟨a, vs, rfl, hs, hd⟩ := dp_tuple e
    exact ⟨a, vs, rfl, sqt_up s.fh hs, q _ F2 H2 s (yl_enumT hs hd)⟩
/-! sets of ints and None -/
def nkOf : PD → Option (Option Key)
  | .none => some none
  | .int i => some (some (.inl i))
  | .str x => some (some (.inr x))
  | _ => none
theorem nk_v {H : Hp} {v : V} {k : Option Key} (h : Dp K H v d) (e : nkOf d = some k) : v = nkV k := by
  cases h <;> first | (cases e; rfl) | cases e
theorem ok_setno {w : World} {p : Addr} {S : Option Key → Bool} {n : Nat} : OkO (SetNo w p S n) := ⟨fun _ z => (by cases z), fun _ _ z => (by cases z)⟩
abbrev setN (w : World) (S : Option Key → Bool) (n : Nat) : Slot := .ob fun p => SetNo w p S n
theorem Sig.obj {F0 H0 F H : Hp} {m : Addr → Prop} {σ : L2.St} {i : Nat} {f : Addr → HO} (S : Sig K w F0 H0 m F H σ δ) (hi : δ[i]? = some (.ob f)) : ∃ p, σ[i]? = some (some (.ref p)) ∧ F p = none ∧ H p = some (f p) := by
  obtain ⟨p, e, _⟩ := S.ref hi rfl
  obtain ⟨p', h1, h2, h3⟩ := S.ok i _ hi
  rw [e] at h1
  cases h1
  exact ⟨p, e, h2, h3⟩
theorem run_set0N {i : Nat} (n : nx (δ.set i (setN w (fun _ => false) 0))) : Run K w (tAsg (tCB (rSet0N w) tNil) (gName i)) δ nx rt bk ct := fun F0 H0 m F H σ S D a _ _ _ => ⟨rfl, fun p hp => by
  refine a _ F _ _ n (Same.refl F) ((S.up (.mk1 S.fh hp ok_setno)).setM i ⟨p, rfl, S.fh.free hp, upd_same⟩ rfl (new_loc S hp) fun j sj _ ej mj eq => ?_)
  obtain ⟨p', e1, _⟩ := S.ref ej mj
  rw [e1] at eq
  cases eq
  have q := S.ok j sj ej
  rw [e1] at q
  cases sj with
  | emp => cases mj
  | d x => cases mj
  | own b xs => obtain ⟨_, _, h1, _, h3, _⟩ := q; cases h1; rw [hp] at h3; cases h3
  | gen b' n => obtain ⟨_, h1, _, _, _, _, h3, _⟩ := q; cases h1; rw [hp] at h3; cases h3
  | set S' n => obtain ⟨_, h1, _, h3⟩ := q; cases h1; rw [hp] at h3; cases h3
  | ob o9 => obtain ⟨_, h1, _, h3⟩ := q; cases h1; rw [hp] at h3; cases h3⟩
theorem run_saddN {i : Nat} {k : Option Key} {S' : Option Key → Bool} {n : Nat} (hi : δ[i]? = some (setN w S' n)) (h : EvD K w te δ d) (hk : nkOf d = some k) (hn : n < 4000) (c : nx (δ.set i (setN w (fun j => S' j || decide (j = k)) (if S' k = true then n else n + 1)))) :
    Run K w (tDrop (tSAddN w (tVar i) (tCons te tNil))) δ nx rt bk ct := fun _ _ _ F H σ S D a _ _ _ => by
  obtain ⟨p, e1, f1, h1⟩ := S.obj hi
  refine ⟨_, e1, ⟨p, S', n, rfl, h1⟩, h _ _ _ _ _ _ S _ fun v F2 H2 s e => ?_⟩
  have f2 : F2 p = none := s.nj p f1 (by rw [h1]; exact fun z => nomatch z)
  have h2 : H2 p = some (SetNo w p S' n) := s.hs _ _ h1
  refine ⟨p, k, S', n, rfl, by rw [nk_v e hk], h2, Nat.lt_of_lt_of_le (Nat.succ_lt_succ hn) (by decide), ?_⟩
  exact a _ F2 _ σ c s.ff ((S.up s).chg hi rfl e1 f2 (by rw [h2]; exact fun z => nomatch z) ⟨p, rfl, f2, upd_same⟩ rfl rfl ok_setno)
theorem ev_sinN {i : Nat} {k : Option Key} {S' : Option Key → Bool} {n : Nat} (hi : δ[i]? = some (setN w S' n)) (h : RdD K w te δ d) (hk : nkOf d = some k) : EvD K w (tOp (rSInN w false) te (tVar i)) δ (.bool (S' k)) := fun _ _ _ F H σ S Q q =>
  h _ _ _ _ _ _ S _ fun v F2 H2 s e => by
    obtain ⟨p, e1, f1, h1⟩ := (S.up s).obj hi
    exact ⟨_, e1, k, p, S', n, nk_v e hk, rfl, h1, q _ F2 H2 s (.bl _)⟩
theorem only_nod {H : Hp} (h : Only H) : NoD H := fun a => by
  rcases h a with z | ⟨o, xs, z⟩
  · exact ⟨fun xs e => (by rw [z] at e; cases e), fun o xs e => (by rw [z] at e; cases e)⟩
  · exact ⟨fun xs e => (by rw [z] at e; cases e), fun o xs e => (by rw [z] at e; cases e)⟩
/-! t.index(x), xs.index(x) -/
/-- the written part's own tuples have no dict -/
def KT (K : PySem.W.Frag) : Prop := ∀ a o, K.lookup a = some o → o.cls = .type "tuple" → o.dict = none
def ktB (K : PySem.W.Frag) : Bool := K.all fun p => !(p.2.cls == .type "tuple") || p.2.dict.isNone
theorem kt_of : ∀ {K : PySem.W.Frag}, ktB K = true → KT K
  | [], _ => fun a o e => nomatch e
  | p :: r, h => fun a o e c => by
    unfold ktB at h
    rw [List.all_cons,
          Bool.and_eq_true] at h
    obtain ⟨b, x⟩ := p
    simp only [List.lookup] at e
    split at e
    · cases e
      have h1 := h.1
      simp only [c] at h1
      cases q : o.dict with
      | none => rfl
      | some d =>
        rw [q] at h1
        have e1 : (Value.type "tuple" == Value.type "tuple") = true := by decide +kernel
        rw [e1] at h1
        cases h1
    · exact kt_of (K := r) h.2 a o e c
def tTIndex (K : PySem.W.Frag) (to : TE) (tz : TA) : TE := fun σ H Q => to σ H fun x H1 => (∃ a, x = V.ref a ∧ ((∃ o xs, H1 a = some (.frz o (.tup xs)) ∧ o.dict = none) ∨ ∃ o, K.lookup a = some o ∧ o.cls = .type "tuple" ∧ o.dict = none)) ∧ tz σ H1 fun xs H2 => rTIndex K x xs H2 Q
theorem pe_tindex {X : Cx} {K : PySem.W.Frag} {o e : Expr} {to : TE} {tz : TA} {apos cpos : Pos} (ho : PE X o to) (ha : PA X [e] tz) (eK : X.K = K := by rfl)
    (hbase : attributeBase o "index" X.env (eval o X.env) = eval o X.env := by rfl)
    (hfew : ((backTo cpos (starEach [e] X.env)).all (fun x => !x.1) && (backToKw cpos (keywordEach [] X.env)).all (fun x => x.1.isSome) && decide ([e].length + ([] : List Keyword).length + (if ([] : List Keyword).isEmpty then 0 else 1) < 30)) = true := by rfl)
    (hline : (apos.endLine == cpos.line) = true := by rfl) (hs : starEach [e] X.env = (false, eval e X.env) :: starEach [] X.env := by rfl) (hplain : (backTo cpos (starEach ([] : List Expr) X.env)).any (·.1) = false := by rfl) :
    PE X (.Call (.Attribute o "index" apos) [e] [] cpos) (tTIndex K to tz) := by
  subst eK
  refine ⟨fun pins s σ H Q I h => ?_⟩
  refine wpAny_Call_method_late hbase hfew hline rfl (thn (ho.run pins s σ H _ I h) fun v s1 ⟨x, H1, I1, r1, ⟨a, ex, ty⟩, q1⟩ => ?_)
  subst ex
  have got : ∃ ob, s1.heap.get? a = some ob ∧ ob.cls = .type "tuple" ∧ ob.dict = none := by
    rcases ty with ⟨ob, xs, ea, ed⟩ | ⟨ob, ek, ec, ed⟩
    · obtain ⟨e1, _, its, _, ob2, e2, ec, _⟩ := I1.hok a _ ea
      rw [e1] at e2
      cases e2
      exact ⟨ob, e1, ec, ed⟩
    · exact ⟨ob, I1.kIn _ _ ek, ec, ed⟩
  obtain ⟨ob, e1, ec, ed⟩ := got
  cases r1
  refine ⟨"tuple", "tuple.index", PySem.F.plainAttrs_tuple, PySem.F.slot_tuple_index, PySem.F.type_tuple_index, ⟨ob, e1, ec⟩, fun b eb => ⟨ob, by cases eb; exact e1, ed⟩, ?_⟩
  have hA := ha.run cpos
        pins s1 σ H1 _ I1 q1
  rw [hs] at hA ⊢
  refine Calls.callWith_builtin (by show (false || (backTo cpos (starEach ([] : List Expr) X.env)).any (·.1)) = false; rw [hplain] <;> rfl) (Calls.evalArgs_plain (thn hA fun us s2 ⟨vs, H2, I2, r2, q2⟩ => mt_tindex pins s2 σ H2 (.ref a) vs (.ref a) us Q I2 rfl r2 q2))
theorem first_v {H : Hp} {vs : List V} {u : V} (hd : DpAll K H vs ds) (hu : Dp K H u y) (fy : flatD y = true) (fd : ds.all flatD = true) {j : Nat} {z : PD} (hz : ds[j]? = some z) (ez : PyData.eqv z y = true) (no : ∀ (m : Nat) (z' : PD), m < j → ds[m]? = some z' → PyData.eqv z' y = false) :
    ∃ v, vs[j]? = some v ∧ eqV v u = true ∧ ∀ (m : Nat) (v' : V), m < j → vs[m]? = some v' → eqV v' u = false := by
  have fl : ∀ {k : Nat} {d : PD}, ds[k]? = some d → flatD d = true := fun e => List.all_eq_true.mp fd _ (List.mem_of_getElem? e)
  obtain ⟨v, g1, g2⟩ := da_get hd hz
  refine ⟨v, g1, by rw [eq_v g2 hu (fl hz) fy]; exact ez, fun m v' l e => ?_⟩
  obtain ⟨d', e1, e2⟩ := da_getV hd e
  rw [eq_v e2 hu (fl e1) fy]
  exact no m d' l e1
theorem ev_tindex {j : Nat} {z : PD} (kt : KT K) (ha : EvD K w ta δ (.tuple ds)) (hb : RdD K w tb δ y) (fy : flatD y = true) (fd : ds.all flatD = true) (hz : ds[j]? = some z) (ez : PyData.eqv z y = true) (no : ∀ (m : Nat) (z' : PD), m < j → ds[m]? = some z' → PyData.eqv z' y = false) :
    EvD K w (tTIndex K ta (tCons tb tNil)) δ (.int (j : Nat)) := fun _ _ _ F H σ S Q q =>
  ha _ _ _ _ _ _ S _ fun v F2 H2 s e => by
    obtain ⟨a, vs, rfl, hs, hd⟩ := dp_tuple e
    have n2 := (S.up s).fz.n a
    have s2 := sqt_up s.fh hs
    refine ⟨?_, hb _ _ _ _ _ _ (S.up s) _ fun u F3 H3 s2 e2 => ?_⟩
    · rcases s2 with (z | ⟨o, z⟩) | ⟨o, its, n, z, c, _⟩
      · exact absurd z (n2.1 vs)
      · exact ⟨a, rfl, .inl ⟨o, vs, z, n2.2 o vs z⟩⟩
      · exact ⟨a, rfl, .inr ⟨o, z, c, kt a o z c⟩⟩
    · have d3 := da_up (s.fh.trans s2.hs) _ _ hd
      obtain ⟨v, g1, g2, g3⟩ := first_v d3 e2 fy fd hz ez no
      exact ⟨a, vs, u, j, v, rfl, rfl, sqt_up (s.fh.trans s2.hs) hs, by rw [flat_v e2]; exact fy, flats_v d3 fd, g1, g2, g3, q _ F3 H3 (s.trans s2) (.int _)⟩
theorem ev_lindex {j : Nat} {z : PD} (ha : RdD K w ta δ (.list ds)) (hb : RdD K w tb δ y) (fy : flatD y = true) (fd : ds.all flatD = true) (hz : ds[j]? = some z) (ez : PyData.eqv z y = true) (no : ∀ (m : Nat) (z' : PD), m < j → ds[m]? = some z' → PyData.eqv z' y = false) :
    EvD K w (tBM K "list" (rIndex K) ta (tCons tb tNil)) δ (.int (j : Nat)) := fun _ _ _ F H σ S Q q =>
  ha _ _ _ _ _ _ S _ fun v F2 H2 s e => by
    obtain ⟨a, vs, rfl, hs, hd⟩ := dp_list e
    refine ⟨.inl ⟨rfl, vs, hs⟩, hb _ _ _ _ _ _ (S.up s) _ fun u F3 H3 s2 e2 => ?_⟩
    have d3 := da_up s2.hs _ _ hd
    obtain ⟨v, g1, g2, g3⟩ := first_v d3 e2 fy fd hz ez no
    exact ⟨a, vs, u, j, v, rfl, rfl, s2.hs.seq hs, by rw [flat_v e2]; exact fy, flats_v d3 fd, g1, g2, g3, q _ F3 H3 (s.trans s2) (.int _)⟩
/-! repeated -/
theorem ev_repT {k : Nat} (ha : EvD K w ta δ (.tuple xs)) (hb : RdD K w tb δ (.int k)) (ne : xs ≠ []) (h1 : 1 ≤ k) (h2 : k ≤ 1000) (hl : xs.length ≤ 1000) : EvD K w (tOp (rRepT1 K) ta tb) δ (.tuple (List.replicate k xs).flatten) := fun _ _ _ F H _ S Q q =>
  ha _ _ _ _ _ _ S _ fun v F2 H2 s e => hb _ _ _ _ _ _ (S.up s) _ fun u F3 H3 s2 e2 => by
    obtain ⟨a, vs, rfl, hs, hd⟩ := dp_tuple (dp_up s2.ff _ _ e)
    have len := da_len hd
    refine ⟨a, k, vs, rfl, dp_int e2, sqt_up s2.fh hs, fun z => ne (by subst z; cases hd; rfl), by omega, by omega, by omega, fun z => ?_, fun _ p hp o ho => ?_⟩
    · have z1 : k = 1 := by omega
      subst z1
      have eq : (List.replicate 1 xs).flatten = xs := by simp
      rw [eq] at q
      exact q _ F3 H3 (s.trans s2) (.tup hs hd)
    · have rep : ∀ n : Nat, DpAll K F3 (List.replicate n vs).flatten (List.replicate n xs).flatten := fun n => by
        induction n with
        | zero => exact .nil
        | succ n ih => rw [List.replicate_succ, List.replicate_succ, List.flatten_cons, List.flatten_cons]; exact da_app hd ih
      rw [Int.toNat_natCast]
      exact q (.ref p) (upd F3 p (.frz o _)) _ ((s.trans s2).trans (.frz s2.fh hp (ok_tup ho))) (.tup (.inl (.inr ⟨_, upd_same⟩)) (da_up (same_new (s2.fh.free hp)) _ _ (rep k)))
theorem eo_rep {k : Nat} (ha : EvO K w ta δ xs) (hb : RdD K w tb δ (.int k)) (h2 : xs.length * k ≤ 100000) (h3 : k ≤ 100000) : EvO K w (tOp rRep ta tb) δ (List.replicate k xs).flatten := fun _ _ _ F H _ S Q q =>
  ha _ _ _ _ _ _ S _ fun p vs F2 H2 s fp np ep hd => hb _ _ _ _ _ _ (S.up s) _ fun u F3 H3 s2 e2 => by
    have d3 := da_up s2.ff _ _ hd
    have rep : ∀ n : Nat, DpAll K F3 (List.replicate n vs).flatten (List.replicate n xs).flatten := fun n => by
      induction n with
      | zero => exact .nil
      | succ n ih => rw [List.replicate_succ, List.replicate_succ, List.flatten_cons, List.flatten_cons]; exact da_app d3 ih
    refine ⟨p, k, vs, rfl, dp_int e2, s2.hs _ _ ep, by omega, by omega, ?_, fun p2 hp2 => ?_⟩
    · rw [Int.toNat_natCast, da_len hd]
      exact small_line h2
    · rw [Int.toNat_natCast]
      exact new_eo (s.trans s2) hp2 (rep k) q
theorem rep_one {k : Nat} {d : PD} : (List.replicate k [d]).flatten = List.replicate k d := by
  induction k with
  | zero => rfl
  | succ k ih => rw [List.replicate_succ, List.flatten_cons, ih, List.replicate_succ, List.singleton_append]
/-! shown -/
theorem ev_repr (ha : RdD K w ta δ d) (h1 : d.showable = true) (h2 : d.hasDict = false) (h3 : d.depth ≤ 60) (h4 : d.shown.length ≤ sizeLine) : EvD K w (tCB (rRepr K) (tCons ta tNil)) δ (.str d.shown) := fun _ _ _ F H _ S Q q =>
  ha _ _ _ _ _ _ S _ fun v F2 H2 s e => ⟨v, d, rfl, e, h1, h2, h3, h4, q _ F2 H2 s (.str _)⟩
/-! drawing -/
variable {i : Nat} {b : Bool} {n n1 n2 : Int} {P P1 P2 : PD → Prop}
theorem eg_catL (h : EvG K w ta δ i b n n1 P1) (h2 : EvG K w tb δ i b n1 n2 P2) (hr : ∀ x y, P1 x → P2 y → ∃ xs ys, x = .list xs ∧ y = .list ys ∧ xs.length + ys.length ≤ 100000 ∧ P (.list (xs ++ ys))) : EvG K w (tOp (rCatL K) ta tb) δ i b n n2 P := fun _ _ _ F H σ g S hi hg Q q =>
  h _ _ _ _ _ _ _ S hi hg _ fun x v F2 H2 p s S2 e => h2 _ _ _ _ _ _ _ S2 hi hg _ fun y u F3 H3 p2 s2 S3 e2 => by
    obtain ⟨xs, ys, rfl, rfl, hl, pd⟩ := hr x y p p2
    obtain ⟨a, vs, rfl, hs, hd⟩ := dp_list (dp_up s2.ff _ _ e)
    obtain ⟨c, us, rfl, hs2, hd2⟩ := dp_list e2
    exact ⟨a, c, vs, us, rfl, rfl, S3.fh.seq hs, S3.fh.seq hs2, by rw [da_len hd, da_len hd2]; exact small_line hl, fun p hp =>
      q _ _ (upd F3 p (.lst (vs ++ us))) _ pd ((s.trans s2).trans (stp_frz S3.fh hp ok_lst)) (S3.up (.frz S3.fh hp ok_lst)) (.lst (.inl (.inl upd_same)) (da_up (same_new (S3.fh.free hp)) _ _ (da_app hd hd2)))⟩
theorem run_setitemG {j : Nat} {b2 : Bool} {tk : TE} (h : EvD K w te (δ.set i (.gen b n)) d) (hj : (δ.set i (.gen b n))[j]? = some (.own b2 ds)) (hj2 : (δ.set i (.gen b n2))[j]? = some (.own b2 ds)) (hk : EvG K w tk δ i b n n2 P) (hi : i < δ.length)
    (c : ∀ z, P z → ∃ (k : Int) (m : Nat), z = .int k ∧ ixN ds.length k = some m ∧ nx ((δ.set i (.gen b n2)).set j (.own b2 (ds.set m d)))) :
    Run K w (tAsg te (gSub (tVar j) tk rSetL)) (δ.set i (.gen b n)) nx rt bk ct := fun _ _ _ F H σ S D a _ _ _ => by
  obtain ⟨g, hg⟩ := S.gadr hi
  refine h _ _ _ _ _ _ S _ fun v F2 H2 s e => ?_
  obtain ⟨p, vs, e1, f1, h1, d1⟩ := (S.up s).own hj
  refine ⟨_, e1, hk _ _ _ _ _ _ _ (S.up s) hi hg _ fun z u F3 H3 pz s2 S3 e2 => ?_⟩
  obtain ⟨k, m, rfl, hm, nn⟩ := c z pz
  obtain ⟨p2, vs2, e3, f2, h2, d2⟩ := S3.own hj2
  rw [e1] at e3
  cases e3
  refine ⟨p, vs2, k, m, rfl, dp_int e2, h2, by rw [da_len d2]; exact hm, ?_⟩
  exact a _ F3 _ σ nn (s.ff.trans s2.ff) (S3.chg hj2 rfl e1 f2 (by rw [h2]; exact fun z => nomatch z) ⟨p, _, rfl, f2, upd_same, da_set (dp_up s2.ff _ _ e) m d2⟩ rfl rfl)
/-- a loop, what is walked being there -/
theorem for_core {J : It} {F0 H0 F H : Hp} {m : Addr → Prop} {σ : L2.St} {D : Ends} (S : Sig K w F0 H0 m F H σ δ) (Y : Yl K J F ds) (Inv : Nat → PN) (h0 : Inv 0 δ)
    (hs : ∀ (k : Nat) (x : PD) (δ' : List Slot), ds[k]? = some x → Inv k δ' → ∃ is δ1, TgD K w g is δ' x δ1 ∧ Run K w t δ1 (Inv (k + 1)) rt nx (Inv (k + 1)))
    (he : ∀ δ', Inv ds.length δ' → nx δ')
    (a : ∀ δ' F2 H2 σ2, nx δ' → Same F F2 → Sig K w F0 H0 m F2 H2 σ2 δ' → D.nx σ2 H2) (r : ∀ δ' r v F2 H2 σ2, rt δ' r → Same F F2 → Sig K w F0 H0 m F2 H2 σ2 δ' → RetOk K H0 F2 H2 v r → D.rt v H2) :
    ∃ W : Nat → Nat → L2.St → Hp → Prop,
          (∃ m, W 0 m σ H) ∧ ∀ i m σ H, W i m σ H →
      (J.stop i H ∧ D.nx σ H) ∨ (J.go i H ∧ ∃ N : L2.St → Hp → Prop, (∀ σ' H', N σ' H' → ∃ m', m' < m ∧ W (i + 1) m' σ' H') ∧ ∀ x H', J.yld i H x H' → g x σ H' fun σ2 H2 => t { D with nx := N, ct := N, bk := D.nx } σ2 H2) := by
  refine ⟨fun i n σ' H' => n = ds.length - i ∧ i ≤ ds.length ∧ ∃ δ' F', Inv i δ' ∧ Same F F' ∧ Sig K w F0 H0 m F' H' σ' δ', ⟨ds.length, by omega, Nat.zero_le _, δ, F, h0, Same.refl F, S⟩, ?_⟩
  rintro i n σ' H' ⟨rfl, hi', δ', F', iv, f, S'⟩
  have y := Y F' H' f S'.fh i
  by_cases q : i < ds.length
  · refine .inr ?_
    have ex : ds[i]? = some ds[i] := List.getElem?_eq_getElem q
    obtain ⟨g1, g2⟩ := y.1 _ ex
    refine ⟨g1, fun σ2 H3 => ∃ δ2 F3, Inv (i + 1) δ2 ∧ Same F F3 ∧ Sig K w F0 H0 m F3 H3 σ2 δ2, fun σ2 H3 ⟨δ2, F3, b1, b2, b3⟩ => ⟨ds.length - (i + 1), by omega, rfl, q, δ2, F3, b1, b2, b3⟩, fun x H3 yy => ?_⟩
    obtain ⟨F3, s3, e3⟩ := g2 x H3 yy
    obtain ⟨is, δ1, tg, rn⟩ := hs i _ δ' ex iv
    refine tg _ _ _ _ _ _ _ (S'.up s3) e3 _ fun σ2 S2 _ _ => ?_
    exact rn _ _ _ _ _ _ S2 _ (fun δ2 F4 H4 σ3 p f4 S4 => ⟨δ2, F4, p, (f.trans s3.ff).trans f4, S4⟩) (fun δ2 z v F4 H4 σ3 p f4 S4 R => r δ2 z v F4 H4 σ3 p ((f.trans s3.ff).trans f4) S4 R)
      (fun δ2 F4 H4 σ3 p f4 S4 => a δ2 F4 H4 σ3 p ((f.trans s3.ff).trans f4) S4) (fun δ2 F4 H4 σ3 p f4 S4 => ⟨δ2, F4, p, (f.trans s3.ff).trans f4, S4⟩)
  · refine .inl ⟨y.2 (by omega), a δ' F' H' σ' (he δ' ?_) f S'⟩
    have z : i = ds.length := by omega
    rw [← z]
    exact iv
/-- for over a list that drawing makes -/
theorem run_forG (h : EvG K w te δ i b n n2 P) (hi : i < δ.length) (c : ∀ z, P z → ∃ ds, z = .list ds ∧ ∃ Inv : Nat → PN, Inv 0 (δ.set i (.gen b n2)) ∧
    (∀ (k : Nat) (x : PD) (δ' : List Slot), ds[k]? = some x → Inv k δ' → ∃ is δ1, TgD K w g is δ' x δ1 ∧ Run K w t δ1 (Inv (k + 1)) rt nx (Inv (k + 1))) ∧ (∀ δ', Inv ds.length δ' → nx δ')) :
    Run K w (tFor (iList K te) g t) (δ.set i (.gen b n)) nx rt bk ct := fun F0 H0 m F H σ S D a r c1 c2 => by
  obtain ⟨gg, hg⟩ := S.gadr hi
  refine h _ _ _ _ _ _ _ S hi hg _ fun z v F2 H2 pz s S2 e => ?_
  obtain ⟨ds, rfl, Inv, i0, hs, he⟩ := c z pz
  obtain ⟨ad, vs, rfl, hq, hd⟩ := dp_list e
  exact ⟨ad, rfl, ⟨vs, S2.fh.seq hq⟩, for_core S2 (yl_list hq hd) Inv i0 hs he (fun δ' F' H' σ' z f S' => a δ' F' H' σ' z (s.ff.trans f) S') (fun δ' z v F' H' σ' z2 f S' R => r δ' z v F' H' σ' z2 (s.ff.trans f) S' R)⟩
end
end MU
namespace MU
open PySem PySem.Spec L2
section
variable {K : PySem.W.Frag} {w : World} {δ : List Slot} {ta tb : TE} {d x : PD} {ds : List PD}
/-- xs[i], xs a list or a tuple -/
theorem ev_ix2 {i : Int} (ha : EvD K w ta δ x) (hb : RdD K w tb δ (.int i)) (e : atI ds i = some d) (es : seqOf x = some ds := by rfl) : EvD K w (tOp (rIx K) ta tb) δ d := fun _ _ _ F H _ S Q q =>
  ha _ _ _ _ _ _ S _ fun v F2 H2 s ev => hb _ _ _ _ _ _ (S.up s) _ fun u F3 H3 s2 e2 => by
    obtain ⟨a, xs, rfl, hs, hd⟩ := dp_seq (dp_up s2.ff _ _ ev) es
    obtain ⟨v', g1, g2⟩ := at_da hd e
    rcases hs with hs | hs
    · exact .inl ⟨a, xs, i, v', rfl, dp_int e2, s2.fh.seq hs, g1, q v' F3 H3 (s.trans s2) g2⟩
    · exact .inr (.inl ⟨a, xs, i, v', rfl, dp_int e2, sqt_up s2.fh hs, g1, q v' F3 H3 (s.trans s2) g2⟩)
end
end MU
namespace MU
open PySem PySem.Spec L2
theorem k_ix2 {X : Cx} {K : PySem.W.Frag} (e : X.K = K := by rfl) : IxR X (rIx K) := by subst e; exact ix_seq
end MU
namespace MU
open PySem PySem.Spec L2
theorem EvGA.imp {K : PySem.W.Frag} {w : World} {δ : List Slot} {tz : TA} {i : Nat} {b : Bool} {n n2 : Int} {P P' : List PD → Prop} (h : EvGA K w tz δ i b n n2 P) (p : ∀ d, P d → P' d) : EvGA K w tz δ i b n n2 P' := fun _ _ _ _ _ _ _ S hi hg Q q => h _ _ _ _ _ _ _ S hi hg Q fun d v F2 H2 a => q d v F2 H2 (p d a)
end MU
namespace MU
open PySem PySem.Spec L2
section
variable {K : PySem.W.Frag} {w : World} {δ : List Slot} {tz : TA} {i : Nat} {b : Bool} {n n1 : Int} {P : PD → Prop} {PA : List PD → Prop}
theorem eg_callX {l : Nat} {k : Int} {R : List PD → (PD → Prop) → Prop} {E : XK} (h : EvGA K w tz δ i b n n1 PA) (hn : n1 + k ≤ gmax) (r : ∀ ds, PA ds → ds.length + 1 = l ∧ ∃ P0, R ds P0 ∧ ∀ d, P0 d → P d) : EvG K w (tCall (spG K l k R) [] E (tCons (tVar i) tz)) δ i b n (n1 + k) P := fun _ _ _ F H σ g S hi hg Q q => by
  refine ⟨_, hg, h _ _ _ _ _ _ _ S hi hg _ fun ds vs F2 H2 p s S2 e => ?_⟩
  have e0 : (δ.set i (.gen b n1))[i]? = some (.gen b n1) := List.getElem?_set_self hi
  obtain ⟨p', e1, f1, G⟩ := S2.ok i _ e0
  rw [hg] at e1
  cases e1
  obtain ⟨r1, P0, r2, r3⟩ := r ds p
  refine ⟨F2, g, n1, vs, ds, P0, by rw [List.append_nil], S2.fz, f1, G, hn, e, r1, r2, fun d v F3 H3 pd s3 G3 e3 => ?_⟩
  exact q d v F3 H3 (r3 d pd) (s.trans s3) (S2.turn hi hg s3 G3) e3
end
end MU

namespace MU
open PySem PySem.Spec PyProof.Rows L2
open PySem.W (minD AlikeAll dataLt)
/-! min of a list of pairs of ints -/
def prI (z : Int × Int) : PyData := .tuple [.int z.1, .int z.2]
def lessP (a b : Int × Int) : Bool := decide (a.1 < b.1) || (decide (a.1 = b.1) && decide (a.2 < b.2))
theorem less_pr (a b : Int × Int) : dataLt (prI a) (prI b) = lessP a b := by
  unfold prI lessP
  rw [PySem.W.dataLt_tuple]
  by_cases c : a.1 = b.1
  · rw [PySem.W.dataLt_all_yes (by rfl) (by rw [c]; simp [PyData.eqv])]
    rw [decide_eq_false (show ¬ a.1 < b.1 by omega), decide_eq_true c, Bool.false_or, Bool.true_and]
    by_cases e : a.2 = b.2
    · rw [PySem.W.dataLt_all_yes (by rfl) (by rw [e]; simp [PyData.eqv]), decide_eq_false (show ¬ a.2 < b.2 by omega)]
      rfl
    · rw [PySem.W.dataLt_all_no (by rfl) (by simp [PyData.eqv, e]), PySem.W.dataLt_int]
  · rw [PySem.W.dataLt_all_no (by rfl) (by simp [PyData.eqv, c]), PySem.W.dataLt_int, decide_eq_false c, Bool.false_and, Bool.or_false]
def minP (z : Int × Int) (l : List (Int × Int)) : Int × Int := l.foldl (fun a y => if lessP y a then y else a) z
theorem min_pr (z : Int × Int) (l : List (Int × Int)) : minD (prI z) (l.map prI) = prI (minP z l) := by
  unfold minD minP
  induction l generalizing z with
  | nil => rfl
  | cons y l ih =>
    rw [List.map_cons, List.foldl_cons, List.foldl_cons, less_pr, ← ih]
    split <;> rfl
theorem alike_pr (l : List (Int × Int)) : AlikeAll (l.map prI) := by
  refine ⟨fun x hx y hy => ?_, fun x hx => ?_⟩
  · obtain ⟨a, _, rfl⟩ := List.mem_map.mp hx
    obtain ⟨b, _, rfl⟩ := List.mem_map.mp hy
    rfl
  · obtain ⟨a, _, rfl⟩ := List.mem_map.mp hx
    exact fun z => nomatch z
theorem lay_pr : ∀ l : List (Int × Int), PyData.canLayAll0 (l.map prI) = true ∧ PyData.depthAll (l.map prI) ≤ 1
  | [] => ⟨rfl, Nat.zero_le _⟩
  | z :: l => by
    have ih := lay_pr l
    refine ⟨?_, ?_⟩
    · show (PyData.canLay0 (prI z) && PyData.canLayAll0 (l.map prI)) = true
      rw [ih.1]
      rfl
    · show max (PyData.depth (prI z)) (PyData.depthAll (l.map prI)) ≤ 1
      have : PyData.depth (prI z) = 1 := rfl
      omega
def rMinP (K : PySem.W.Frag) : List V → Hp → VK → Prop := fun xs H Q => ∃ (a : Addr) (vs : List V) (z : Int × Int) (l : List (Int × Int)), xs = [.ref a] ∧ SqL K H a vs ∧ DpAll K H vs (prI z :: l.map prI) ∧
  ∀ (i : Nat) (v : V), vs[i]? = some v → (prI z :: l.map prI)[i]? = some (prI (minP z l)) → Q v H
section
variable {X : Cx}
theorem cr_minP (hc : X.calm = true) (hu : X.A.units + 64 < cLine) : CallR X (.builtin "min") (rMinP X.K) := by
  intro pins s σ H xs us Q I r ⟨a, vs, z, l, e, hs, hd, q⟩
  subst e
  rw [Vals.ref1 r]
  obtain ⟨its, rv, hl, _⟩ := I.list hs
  obtain ⟨as, rd⟩ := Dp.readsAll I (prI z :: l.map prI) vs its hd rv
  have ly := lay_pr (z :: l)
  have lay : PyData.canLayAll0 (prI z :: l.map prI) = true := ly.1
  have dep : PyData.depthAll (prI z :: l.map prI) ≤ 1 := ly.2
  have all := SeqAt.readsAll_map _ its as lay rd
  refine PySem.W.min_list_data (vs := its.toArray) (I.ok.hd hc) hl.isList (show ReadsAll s.heap its.toArray.toList (prI z :: l.map prI) as from rd) (alike_pr (z :: l)) (by omega) fun i v h' tk bs hv hr hk => ?_
  have hv' : its[i]? = some v := by simpa using hv
  have li := (List.getElem?_eq_some_iff.mp hv').1
  obtain ⟨x, hx⟩ : ∃ x, vs[i]? = some x := ⟨_, List.getElem?_eq_getElem (by have := rv.length; omega)⟩
  obtain ⟨u, hu', rx⟩ := rv.get hx
  rw [hv'] at hu'
  cases hu'
  have I' : Inv X pins σ H { s with heap := h', toks := tk } := I.kept (t' := tk) hk
  refine ⟨x, H, I', rx, q i x hx ?_⟩
  obtain ⟨d, hd1, hd2⟩ := da_getV hd hx
  rw [hd1]
  obtain ⟨cs, rc⟩ := Dp.reads I' d x v hd2 rx
  have hm : ∃ y, d = prI y := by
    cases i with
    | zero => exact ⟨z, (Option.some.inj hd1).symm⟩
    | succ j =>
      have h1 : (l.map prI)[j]? = some d := hd1
      rw [List.getElem?_map] at h1
      cases e1 : l[j]? with
      | none => rw [e1] at h1; cases h1
      | some y => rw [e1] at h1; exact ⟨y, (Option.some.inj h1).symm⟩
  obtain ⟨y, rfl⟩ := hm
  rw [min_pr] at hr
  have e1 := SeqAt.readOf_eq (show (prI y).canLay0 = true from rfl) rc
  have e2 := SeqAt.readOf_eq (show (prI (minP z l)).canLay0 = true from rfl) hr
  exact congrArg some (e1.symm.trans e2)
end
section
variable {K : PySem.W.Frag} {w : World} {δ : List Slot} {ta : TE}
theorem ev_minP {z : Int × Int} {l : List (Int × Int)} (ha : EvD K w ta δ (.list (prI z :: l.map prI))) : EvD K w (tCB (rMinP K) (tCons ta tNil)) δ (prI (minP z l)) := fun _ _ _ F H _ S Q q =>
  ha _ _ _ _ _ _ S _ fun v F2 H2 s e => by
    obtain ⟨a, vs, rfl, hs, hd⟩ := dp_list e
    refine ⟨a, vs, z, l, rfl, s.fh.seq hs, da_up s.fh _ _ hd, fun i v hv hm => ?_⟩
    obtain ⟨d, h1, h2⟩ := da_getV hd hv
    rw [hm] at h1
    cases h1
    exact q v F2 H2 s h2
end
end MU

namespace MU
open PySem PySem.Spec L2
/-! ## charts -/
/-- t tells for post k + 1 the post directly above -/
def Chart (t : List Nat) : Prop := ∀ k p : Nat, t[k]? = some p → p ≤ k
def chartD (t : List Nat) : PD := .tuple (.none :: t.map fun n : Nat => .int n)
abbrev chartL (t : List Nat) : List PD := .none :: t.map fun n : Nat => .int n
theorem chart_len (t : List Nat) : (chartL t).length = t.length + 1 := by simp
theorem at_nat {xs : List PD} {j : Nat} {d : PD} (h : xs[j]? = some d) : atI xs (j : Int) = some d := by
  unfold atI ixN
  have l := (List.getElem?_eq_some_iff.mp h).1
  rw [if_pos (by omega),
        if_pos (by omega)]
  show xs[(j : Int).toNat]? = some d
  rw [Int.toNat_natCast]
  exact h
theorem ixN_nat {n j : Nat} (h : j < n) : ixN n (j : Int) = some j := by
  unfold ixN
  rw [if_pos (by omega), if_pos (by omega), Int.toNat_natCast]
theorem at_last {xs : List PD} {d : PD} : atI (xs ++ [d]) (-1) = some d := by
  unfold atI ixN
  rw [List.length_append, List.length_singleton, if_neg (by omega), if_pos (by omega)]
  show (xs ++ [d])[((-1 : Int) + (xs.length + 1 : Nat)).toNat]? = some d
  have e : ((-1 : Int) + (xs.length + 1 : Nat)).toNat = xs.length := by omega
  rw [e]
  simp
theorem chart_at0 (t : List Nat) : (chartL t)[0]? = some .none := rfl
theorem chart_at {t : List Nat} {k p : Nat} (h : t[k]? = some p) : (chartL t)[k + 1]? = some (.int p) := by
  show (t.map fun n : Nat => PyData.int n)[k]? = some (.int p)
  rw [List.getElem?_map, h]
  rfl
theorem chart_has {t : List Nat} {j : Nat} (h : 0 < j) (l : j < t.length + 1) : ∃ p, t[j - 1]? = some p := ⟨_, List.getElem?_eq_getElem (by omega)⟩
/-- the posts from the head down to j -/
def way (t : List Nat) (j : Nat) : List Nat :=
  if h : 0 < j ∧ t.getD (j - 1) 0 < j then way t (t.getD (j - 1) 0) ++ [j] else [j]
termination_by j
decreasing_by exact h.2
theorem way_zero (t : List Nat) : way t 0 = [0] := by
  rw [way, dif_neg (fun z => Nat.lt_irrefl 0 z.1)]
theorem way_succ {t : List Nat} {j p : Nat} (h : t[j]? = some p) (hp : p ≤ j) : way t (j + 1) = way t p ++ [j + 1] := by
  have e : t.getD (j + 1 - 1) 0 = p := by rw [Nat.add_sub_cancel, List.getD_eq_getElem?_getD, h]; rfl
  rw [way, dif_pos (by rw [e]; omega), e]
theorem way_step {t : List Nat} (c : Chart t) {j p : Nat} (h0 : 0 < j) (h : t[j - 1]? = some p) : way t j = way t p ++ [j] ∧ p < j := by
  have q := c _ _ h
  obtain ⟨k, rfl⟩ : ∃ k, j = k + 1 := ⟨j - 1, by omega⟩
  rw [Nat.add_sub_cancel] at h q
  exact ⟨way_succ h q, by omega⟩
theorem way_le {t : List Nat} (c : Chart t) : ∀ (j : Nat), j < t.length + 1 → ∀ x ∈ way t j, x ≤ j := by
  intro j
  induction j using Nat.strongRecOn with
  | ind j ih =>
    intro l x hx
    by_cases h0 : 0 < j
    · obtain ⟨p, hp⟩ := chart_has h0 l
      obtain ⟨e, lt⟩ := way_step c h0 hp
      rw [e] at hx
      rcases List.mem_append.mp hx with q | q
      · exact Nat.le_of_lt (Nat.lt_of_le_of_lt (ih p lt (by omega) x q) lt)
      · rw [List.mem_singleton.mp q]; exact Nat.le_refl _
    · have : j = 0 := by omega
      subst this
      rw [way_zero] at hx
      rw [List.mem_singleton.mp hx]
      exact Nat.le_refl _
theorem way_self {t : List Nat} (j : Nat) : j ∈ way t j := by
  rw [way]
  split
  · exact List.mem_append_right _ (List.mem_singleton.mpr rfl)
  · exact List.mem_singleton.mpr rfl
theorem way_len {t : List Nat} (c : Chart t) : ∀ (j : Nat), j < t.length + 1 → (way t j).length ≤ j + 1 := by
  intro j
  induction j using Nat.strongRecOn with
  | ind j ih =>
    intro l
    by_cases h0 : 0 < j
    · obtain ⟨p, hp⟩ := chart_has h0 l
      obtain ⟨e, lt⟩ := way_step c h0 hp
      rw [e, List.length_append, List.length_singleton]
      have := ih p lt (by omega)
      omega
    · have : j = 0 := by omega
      subst this
      rw [way_zero]
      exact Nat.le_refl _
/-- the posts below q -/
def belowL (t : List Nat) (q : Nat) : List Nat := (List.range (t.length + 1)).filter fun j => decide (q ∈ way t j)
theorem below_mem {t : List Nat} {q j : Nat} : j ∈ belowL t q ↔ j < t.length + 1 ∧ q ∈ way t j := by
  unfold belowL
  rw [List.mem_filter, List.mem_range, decide_eq_true_eq]
def intsD (l : List Nat) : List PD := l.map fun n : Nat => .int n
theorem intsD_eq (l : List Nat) : intsD l = (l.map fun n : Nat => (n : Int)).map PyData.int := by unfold intsD; rw [List.map_map]; rfl
theorem cast_lt {l : List Nat} (h : l.Pairwise (· < ·)) : (l.map fun n : Nat => (n : Int)).Pairwise (· < ·) := List.pairwise_map.mpr (h.imp fun {a b} h => by omega)
theorem below_sorted (t : List Nat) (q : Nat) : (belowL t q).Pairwise (· < ·) := List.Pairwise.filter _ List.pairwise_lt_range
/-- the last post that both ways have -/
def comL (t : List Nat) (a b : Nat) : List Nat := (way t a).filter fun x => decide (x ∈ way t b)
theorem com_self (t : List Nat) (a : Nat) : comL t a a = way t a := List.filter_eq_self.mpr fun x h => decide_eq_true h
theorem com_left {t : List Nat} (c : Chart t) {a b p : Nat} (h : b < a) (la : a < t.length + 1) (hp : t[a - 1]? = some p) : comL t a b = comL t p b := by
  obtain ⟨e, _⟩ := way_step c (by omega) hp
  unfold comL
  rw [e, List.filter_append, List.filter_cons, if_neg, List.filter_nil, List.append_nil]
  intro z
  have := way_le c b (by omega) a (of_decide_eq_true z)
  omega
theorem com_right {t : List Nat} (c : Chart t) {a b p : Nat} (h : a < b) (lb : b < t.length + 1) (hp : t[b - 1]? = some p) : comL t a b = comL t a p := by
  obtain ⟨e, _⟩ := way_step c (by omega) hp
  unfold comL
  refine List.filter_congr fun x hx => ?_
  have := way_le c a (by omega) x hx
  rw [e]
  refine decide_eq_decide.mpr ⟨fun z => ?_, fun z => List.mem_append_left _ z⟩
  rcases List.mem_append.mp z with q | q
  · exact q
  · rw [List.mem_singleton] at q
    omega
theorem way_last (t : List Nat) (a : Nat) : (way t a).getLast? = some a := by
  rw [way]
  split
  · rw [List.getLast?_append]
    rfl
  · rfl
theorem way_sorted {t : List Nat} (c : Chart t) : ∀ (j : Nat), j < t.length + 1 → (way t j).Pairwise (· < ·) := by
  intro j
  induction j using Nat.strongRecOn with
  | ind j ih =>
    intro l
    by_cases h0 : 0 < j
    · obtain ⟨p, hp⟩ := chart_has h0 l
      obtain ⟨e, lt⟩ := way_step c h0 hp
      rw [e]
      refine List.pairwise_append.mpr ⟨ih p lt (by omega), List.pairwise_singleton _ _, fun x hx y hy => ?_⟩
      rw [List.mem_singleton] at hy
      subst hy
      exact Nat.lt_of_le_of_lt (way_le c p (by omega) x hx) lt
    · have : j = 0 := by omega
      subst this
      rw [way_zero]
      exact List.pairwise_singleton _ _
theorem way_head {t : List Nat} (c : Chart t) : ∀ (j : Nat), j < t.length + 1 → 0 ∈ way t j := by
  intro j
  induction j using Nat.strongRecOn with
  | ind j ih =>
    intro l
    by_cases h0 : 0 < j
    · obtain ⟨p, hp⟩ := chart_has h0 l
      obtain ⟨e, lt⟩ := way_step c h0 hp
      rw [e]
      exact List.mem_append_left _ (ih p lt (by omega))
    · have : j = 0 := by omega
      subst this
      exact way_self 0
theorem com_symm {t : List Nat} (c : Chart t) {a b : Nat} (la : a < t.length + 1) (lb : b < t.length + 1) : comL t b a = comL t a b := by
  have m : ∀ a b x, x ∈ comL t a b ↔ x ∈ way t a ∧ x ∈ way t b := fun a b x => by unfold comL; rw [List.mem_filter, decide_eq_true_eq]
  have s : ∀ a b, a < t.length + 1 → (comL t a b).Pairwise (· < ·) := fun a b la => List.Pairwise.filter _ (way_sorted c a la)
  refine List.Perm.eq_of_pairwise (le := (· < ·)) (fun a b _ _ h h' => absurd (Nat.lt_trans h h') (Nat.lt_irrefl _)) (s b a lb) (s a b la) ?_
  exact (List.perm_ext_iff_of_nodup ((s b a lb).imp fun h => Nat.ne_of_lt h) ((s a b la).imp fun h => Nat.ne_of_lt h)).mpr fun x => by rw [m, m]; exact And.comm
theorem com_some {t : List Nat} (c : Chart t) {a b : Nat} (la : a < t.length + 1) (lb : b < t.length + 1) : ∃ z, (comL t a b).getLast? = some z ∧ z < t.length + 1 := by
  have h0 : 0 ∈ comL t a b := by unfold comL; rw [List.mem_filter, decide_eq_true_eq]; exact ⟨way_head c a la, way_head c b lb⟩
  cases e : (comL t a b).getLast? with
  | none => rw [List.getLast?_eq_none_iff] at e; rw [e] at h0; cases h0
  | some z =>
    have := List.mem_of_getLast? e
    unfold comL at this
    have := way_le c a la z (List.mem_filter.mp this).1
    exact ⟨z, rfl, by omega⟩
/-! data that may be compared -/
def Shp (n : Nat) (d : PD) : Prop := d.canLay0 = true ∧ d.depth ≤ n
theorem shp_mono {n m : Nat} {d : PD} (h : Shp n d) (l : n ≤ m) : Shp m d := ⟨h.1, Nat.le_trans h.2 l⟩
theorem shp_none {n : Nat} : Shp n .none := ⟨rfl, Nat.zero_le _⟩
theorem shp_int {n : Nat} {i : Int} : Shp n (.int i) := ⟨rfl, Nat.zero_le _⟩
theorem shp_bool {n : Nat} {b : Bool} : Shp n (.bool b) := ⟨rfl, Nat.zero_le _⟩
theorem shp_all {n : Nat} : ∀ {xs : List PD}, (∀ x ∈ xs, Shp n x) → PyData.canLayAll0 xs = true ∧ PyData.depthAll xs ≤ n
  | [], _ => ⟨rfl, Nat.zero_le _⟩
  | x :: xs, h => by
    obtain ⟨a, b⟩ := shp_all (xs := xs) fun y hy => h y (List.mem_cons_of_mem _ hy)
    obtain ⟨c, e⟩ := h x List.mem_cons_self
    refine ⟨?_, Nat.max_le.mpr ⟨e, b⟩⟩
    show (x.canLay0 && PyData.canLayAll0 xs) = true
    rw [c, a]
    rfl
theorem shp_list {n : Nat} {xs : List PD} (h : ∀ x ∈ xs, Shp n x) : Shp (n + 1) (.list xs) := by
  obtain ⟨a, b⟩ := shp_all h
  exact ⟨a, Nat.succ_le_succ b⟩
theorem shp_tuple {n : Nat} {xs : List PD} (h : ∀ x ∈ xs, Shp n x) : Shp (n + 1) (.tuple xs) := by
  obtain ⟨a, b⟩ := shp_all h
  exact ⟨a, Nat.succ_le_succ b⟩
theorem shp_ok {n : Nat} {d : PD} (h : Shp n d) (l : n ≤ 64 := by decide) : SeqAt.shaped d = true := by
  unfold SeqAt.shaped
  rw [h.1, decide_eq_true (Nat.le_trans h.2 l)]
  rfl
theorem shp_ints (l : List Nat) : Shp 1 (.list (intsD l)) := shp_list fun x h => by
  unfold intsD at h
  obtain ⟨n, _, rfl⟩ := List.mem_map.mp h
  exact shp_int
mutual
theorem eqv_self : ∀ {d : PD}, d.canLay0 = true → PyData.eqv d d = true
  | .none, _ => rfl
  | .bool b, _ => by simp [PyData.eqv]
  | .int i, _ => by simp [PyData.eqv]
  | .str x, _ => by simp [PyData.eqv]
  | .list xs, h => by
    show PyData.eqvAll xs xs = true
    exact eqvs_self (xs := xs) h
  | .tuple xs, h => by
    show PyData.eqvAll xs xs = true
    exact eqvs_self (xs := xs) h
  | .dict _, h => by cases h
theorem eqvs_self : ∀ {xs : List PD}, PyData.canLayAll0 xs = true → PyData.eqvAll xs xs = true
  | [], _ => rfl
  | x :: xs, h => by
    have h' : (x.canLay0 && PyData.canLayAll0 xs) = true := h
    rw [Bool.and_eq_true] at h'
    show (PyData.eqv x x && PyData.eqvAll xs xs) = true
    rw [eqv_self h'.1, eqvs_self h'.2]
    rfl
end
theorem eq_same {n : Nat} {d e : PD} (s : Shp n d) (h : d = e) : PyData.eqv d e = true := by
  subst h
  exact eqv_self s.1
theorem any_ints (l : List Nat) (q : Nat) : ((intsD l).any fun z => PyData.eqv z (.int q)) = decide (q ∈ l) := by
  induction l with
  | nil => rfl
  | cons a l ih =>
    unfold intsD at ih ⊢
    rw [List.map_cons, List.any_cons, ih]
    have e : PyData.eqv (.int (a : Int)) (.int (q : Int)) = decide (q = a) := by
      show ((a : Int) == (q : Int)) = decide (q = a)
      by_cases h : q = a
      · subst h; simp
      · rw [decide_eq_false h]
        exact beq_eq_false_iff_ne.mpr fun z => h (by omega)
    rw [e]
    by_cases h : q = a
    · subst h; simp
    · simp [h]
theorem flat_ints (l : List Nat) : (intsD l).all flatD = true := by
  rw [List.all_eq_true]
  intro x h
  unfold intsD at h
  obtain ⟨n, _, rfl⟩ := List.mem_map.mp h
  rfl
theorem sc_ints (l : List Nat) : ∀ d ∈ intsD l, (scV d).isSome = true := fun d h => by
  unfold intsD at h
  obtain ⟨n, _, rfl⟩ := List.mem_map.mp h
  rfl
theorem at_getLast {l : List Nat} {c : Nat} (h : l.getLast? = some c) : atI (intsD l) (-1) = some (.int c) := by
  obtain ⟨ys, rfl⟩ := List.getLast?_eq_some_iff.mp h
  unfold intsD
  rw [List.map_append]
  exact at_last
/-- [j for j in range(n) if p j] -/
theorem filt_range (n : Nat) (p : Nat → Bool) (f : PD → Option PD) (hf : ∀ j : Nat, f (.int (j : Int)) = if p j = true then some (.int (j : Int)) else none) : (rngD 0 n).filterMap f = intsD ((List.range n).filter p) := by
  unfold rngD intsD
  rw [List.filterMap_map]
  induction List.range n with
  | nil => rfl
  | cons a l ih =>
    rw [List.filterMap_cons, List.filter_cons]
    have ef : (f ∘ fun k : Nat => PyData.int (0 + (k : Int))) a = if p a = true then some (.int (a : Int)) else none := by
      show f (.int (0 + (a : Int))) = _
      rw [Int.zero_add, hf]
    rw [ef]
    by_cases h : p a = true
    · rw [if_pos h, if_pos h, List.map_cons, ← ih]
    · rw [if_neg h, if_neg h, ← ih]
theorem filt_ints (l : List Nat) (p : Nat → Bool) (f : PD → Option PD) (hf : ∀ j : Nat, f (.int (j : Int)) = if p j = true then some (.int (j : Int)) else none) : (intsD l).filterMap f = intsD (l.filter p) := by
  unfold intsD
  rw [List.filterMap_map]
  induction l with
  | nil => rfl
  | cons a l ih =>
    rw [List.filterMap_cons, List.filter_cons]
    have ef : (f ∘ fun n : Nat => PyData.int n) a = if p a = true then some (.int (a : Int)) else none := hf a
    rw [ef]
    by_cases h : p a = true
    · rw [if_pos h, if_pos h, List.map_cons, ← ih]
    · rw [if_neg h, if_neg h, ← ih]
/-- the items whose number has p -/
def selD (p : Nat → Bool) : PD → Option PD
  | .int z => if p z.toNat = true then some (.int z) else none
  | _ => none
theorem sel_at (p : Nat → Bool) (j : Nat) : selD p (.int (j : Int)) = if p j = true then some (.int (j : Int)) else none := by
  show (if p ((j : Int)).toNat = true then some (PyData.int (j : Int)) else none) = _
  rw [Int.toNat_natCast]
theorem ints_at {l : List Nat} {k : Nat} {x : PD} (h : (intsD l)[k]? = some x) : ∃ j, l[k]? = some j ∧ x = .int j := by
  unfold intsD at h
  rw [List.getElem?_map] at h
  cases e : l[k]? with
  | none => rw [e] at h; cases h
  | some j => rw [e] at h; cases h; exact ⟨j, rfl, rfl⟩
theorem char_lt (c : Char) : c.toNat < 0x110000 := by
  rcases c.valid with h | ⟨_, h⟩
  · exact Nat.lt_trans h (by decide)
  · exact h
theorem strOk_of (s : String) : PyData.strOk (Str.ofString s) = true := by
  rw [Str.ofString_eq_toList]
  unfold PyData.strOk
  rw [← Array.all_toList,
        List.all_eq_true]
  intro x h
  obtain ⟨c, _, rfl⟩ := List.mem_map.mp h
  exact decide_eq_true (char_lt c)
theorem shp_str {n : Nat} (s : String) : Shp n (.str (Str.ofString s)) := ⟨strOk_of s, Nat.zero_le _⟩
theorem filt_none : ∀ l : List PD, (l.filterMap fun _ => (none : Option PD)) = []
  | [] => rfl
  | _ :: l => by rw [List.filterMap_cons]; exact filt_none l
theorem drawn_chart {es : List PD} {n : Nat} (hl : es.length = n) (h : ∀ j : Nat, j < n → ∃ r : Int, es[j]? = some (.int r) ∧ 0 ≤ r ∧ r < 1 + (j : Int)) : ∃ t, Chart t ∧ t.length = n ∧ es = t.map fun n : Nat => PyData.int n := by
  refine ⟨es.map fun d => match d with | .int r => r.toNat | _ => 0, fun k p e => ?_, by rw [List.length_map, hl], ?_⟩
  · rw [List.getElem?_map] at e
    cases q : es[k]? with
    | none => rw [q] at e; cases e
    | some d =>
      have lk := (List.getElem?_eq_some_iff.mp q).1
      obtain ⟨r, e1, r0, r1⟩ := h k (by omega)
      rw [q] at e1 e
      cases e1
      have e' : r.toNat = p := Option.some.inj e
      omega
  · refine List.ext_getElem? fun k => ?_
    rw [List.map_map, List.getElem?_map]
    by_cases lk : k < es.length
    · obtain ⟨r, e1, r0, r1⟩ := h k (by omega)
      rw [e1]
      show some (PyData.int r) = some (PyData.int ((r.toNat : Nat) : Int))
      rw [Int.toNat_of_nonneg r0]
    · rw [List.getElem?_eq_none (by omega)]
      rfl
/-- what is drawn -/
def hash1 (s i : Int) : Int := (s * 1103515245 + 7919 * i * i + i + 1) % 2147483647
def hash2 (m : Int) : Int := (m * m + 69621) % 2147483629
def hashF (s i : Int) : Int := hash2 (hash1 s i) * 48271 % 2147483587
end MU

namespace MU
open PySem PySem.Spec L2
/-! ## arrangements -/
def cellD : Option Nat → PD
  | none => .none
  | some n => .int n
abbrev rowL (r : List (Option Nat)) : List PD := r.map cellD
def rowD (r : List (Option Nat)) : PD := .tuple (rowL r)
structure Arr (t : List Nat) (r : List (Option Nat)) : Prop where
  len : r.length = t.length + 1
  inj : ∀ i j n : Nat, r[i]? = some (some n) → r[j]? = some (some n) → i = j
  ord : ∀ k p n : Nat, t[k]? = some p → r[k + 1]? = some (some n) → ∃ m, r[p]? = some (some m) ∧ m < n
theorem row_len (r : List (Option Nat)) : (rowL r).length = r.length := List.length_map ..
theorem row_at {r : List (Option Nat)} {k : Nat} {c : Option Nat} (h : r[k]? = some c) : (rowL r)[k]? = some (cellD c) := by rw [List.getElem?_map, h]; rfl
theorem row_of {r : List (Option Nat)} {k : Nat} {d : PD} (h : (rowL r)[k]? = some d) : ∃ c, r[k]? = some c ∧ d = cellD c := by
  rw [List.getElem?_map] at h
  cases e : r[k]? with
  | none => rw [e] at h; cases h
  | some c => rw [e] at h; cases h; exact ⟨c, rfl, rfl⟩
theorem row_has {r : List (Option Nat)} {k : Nat} (h : k < r.length) : ∃ c, r[k]? = some c := ⟨_, List.getElem?_eq_getElem h⟩
theorem cell_non (c : Option Nat) : isNon (cellD c) = !c.isSome := by cases c <;> rfl
theorem cell_flat (c : Option Nat) : flatD (cellD c) = true := by cases c <;> rfl
theorem row_flat (r : List (Option Nat)) : (rowL r).all flatD = true := by
  rw [List.all_map]
  exact List.all_eq_true.mpr fun c _ => cell_flat c
theorem cell_sc (c : Option Nat) : (scV (cellD c)).isSome = true := by cases c <;> rfl
theorem eqv_cell (c : Option Nat) (n : Nat) : PyData.eqv (cellD c) (.int n) = decide (c = some n) := by
  cases c with
  | none =>
    rw [decide_eq_false (fun z => nomatch z)]
    rfl
  | some m =>
    show PyData.eqv (.int (m : Int)) (.int (n : Int)) = _
    have e : PyData.eqv (.int (m : Int)) (.int (n : Int)) = decide ((m : Int) = (n : Int)) := by
      simp only [PyData.eqv]
      by_cases z : (m : Int) = n
      · rw [z]; simp
      · rw [decide_eq_false z]; exact beq_eq_false_iff_ne.mpr z
    rw [e]
    by_cases z : m = n
    · subst z; simp
    · rw [decide_eq_false (by omega), decide_eq_false (fun q => z (Option.some.inj q))]
theorem any_row (r : List (Option Nat)) (n : Nat) : ((rowL r).any fun z => PyData.eqv z (.int n)) = decide (some n ∈ r) := by
  rw [List.any_map]
  induction r with
  | nil => rfl
  | cons c r ih =>
    rw [List.any_cons, ih]
    show (PyData.eqv (cellD c) (.int n) || _) = _
    rw [eqv_cell]
    by_cases z : c = some n
    · simp [z]
    · have z' : ¬ some n = c := fun q => z q.symm
      simp [z, z']
/-- the first place of a person -/
theorem idx_at {r : List (Option Nat)} {n : Nat} (h : some n ∈ r) : ∃ j : Nat, r[j]? = some (some n) ∧ (∀ m : Nat, m < j → r[m]? ≠ some (some n)) := by
  induction r with
  | nil => cases h
  | cons c r ih =>
    by_cases z : c = some n
    · exact ⟨0, by rw [z]; rfl, fun m l => absurd l (Nat.not_lt_zero _)⟩
    · rcases List.mem_cons.mp h with q | q
      · exact absurd q.symm z
      · obtain ⟨j, h1, h2⟩ := ih q
        refine ⟨j + 1, h1, fun m l => ?_⟩
        cases m with
        | zero => exact fun q => z (Option.some.inj q)
        | succ m => exact h2 m (by omega)
def hold (r : List (Option Nat)) (k : Nat) : Bool := match r[k]? with
  | some (some _) => true
  | _ => false
theorem hold_at {r : List (Option Nat)} {k : Nat} {c : Option Nat} (h : r[k]? = some c) : hold r k = c.isSome := by
  unfold hold
  rw [h]
  cases c <;> rfl
theorem hold_some {r : List (Option Nat)} {k : Nat} (h : hold r k = true) : ∃ n, r[k]? = some (some n) := by
  unfold hold at h
  split at h
  · rename_i n e; exact ⟨n, e⟩
  · cases h
def par (t : List Nat) (k : Nat) : Nat := (t[k - 1]?).getD 0
theorem par_at {t : List Nat} {k p : Nat} (h : t[k - 1]? = some p) : par t k = p := by unfold par; rw [h]; rfl
def opn (t : List Nat) (r : List (Option Nat)) (k : Nat) : Bool := !hold r k && (decide (k = 0) || hold r (par t k))
def openL (t : List Nat) (r : List (Option Nat)) : List Nat := (List.range (t.length + 1)).filter (opn t r)
theorem open_lt {t : List Nat} {r : List (Option Nat)} {k : Nat} (h : k ∈ openL t r) : k < t.length + 1 ∧ opn t r k = true := by
  obtain ⟨h1, h2⟩ := List.mem_filter.mp h
  exact ⟨List.mem_range.mp h1, h2⟩
theorem arr_empty (t : List Nat) : Arr t (List.replicate (t.length + 1) none) :=
  ⟨List.length_replicate, fun i j n h => (nomatch (List.eq_of_mem_replicate (List.mem_of_getElem? h))), fun k p n _ h => (nomatch (List.eq_of_mem_replicate (List.mem_of_getElem? h)))⟩
/-- somebody more junior than all takes an open post -/
theorem arr_put {t : List Nat} {r : List (Option Nat)} (c : Chart t) (a : Arr t r) {k n : Nat} (hk : k < t.length + 1) (o : opn t r k = true) (top : ∀ m, some m ∈ r → m < n) : Arr t (r.set k (some n)) := by
  have lk : k < r.length := by rw [a.len]; exact hk
  unfold opn at o
  rw [Bool.and_eq_true, Bool.or_eq_true] at o
  have e0 : r[k]? = some none := by
    obtain ⟨x, e⟩ := row_has lk
    have := hold_at e
    rw [this] at o
    cases x with
    | none => exact e
    | some m => exact absurd o.1 (by simp)
  have old : ∀ {j m : Nat}, r[j]? = some (some m) → j ≠ k := fun e z => by subst z; rw [e0] at e; cases e
  have get : ∀ {j : Nat} {x : Option Nat}, (r.set k (some n))[j]? = some x → (j = k ∧ x = some n) ∨ (j ≠ k ∧ r[j]? = some x) := fun {j x} e => by
    by_cases z : j = k
    · subst z
      rw [List.getElem?_set_self lk] at e
      exact .inl ⟨rfl, (Option.some.inj e).symm⟩
    · rw [List.getElem?_set_ne (Ne.symm z)] at e
      exact .inr ⟨z, e⟩
  refine ⟨by rw [List.length_set]; exact a.len, fun i j m h1 h2 => ?_, fun q p m hp h => ?_⟩
  · rcases get h1 with ⟨i1, e1⟩ | ⟨i1, e1⟩
    · rcases get h2 with ⟨j1, _⟩ | ⟨_, e2⟩
      · rw [i1, j1]
      · cases e1
        have := top _ (List.mem_of_getElem? e2)
        omega
    · rcases get h2 with ⟨_, e2⟩ | ⟨_, e2⟩
      · cases e2
        have := top _ (List.mem_of_getElem? e1)
        omega
      · exact a.inj i j m e1 e2
  · rcases get h with ⟨i1, e1⟩ | ⟨i1, e1⟩
    · cases e1
      have hq : q = k - 1 := by omega
      subst hq
      have k0 : ¬ k = 0 := by omega
      rcases o.2 with z | z
      · exact absurd (of_decide_eq_true z) k0
      · rw [par_at hp] at z
        obtain ⟨x, ex⟩ := hold_some z
        refine ⟨x, ?_, top _ (List.mem_of_getElem? ex)⟩
        rw [List.getElem?_set_ne (Ne.symm (old ex))]
        exact ex
    · obtain ⟨x, ex, lt⟩ := a.ord q p m hp e1
      refine ⟨x, ?_, lt⟩
      rw [List.getElem?_set_ne (Ne.symm (old ex))]
      exact ex
/-- the number of empty posts -/
def emp (r : List (Option Nat)) : Nat := (r.filter fun c => !c.isSome).length
theorem emp_put {n : Nat} : ∀ {r : List (Option Nat)} {k : Nat}, r[k]? = some none → emp (r.set k (some n)) + 1 = emp r
  | c :: r, 0, h => by
    have z : c = none := Option.some.inj h
    subst z
    rfl
  | c :: r, k + 1, h => by
    have ih := emp_put (n := n) (r := r) (k := k) h
    unfold emp at ih ⊢
    rw [List.set_cons_succ, List.filter_cons, List.filter_cons]
    split
    · rw [List.length_cons, List.length_cons]; omega
    · exact ih
theorem emp_all (k : Nat) : emp (List.replicate k none) = k := by
  induction k with
  | zero => rfl
  | succ k ih => exact congrArg (· + 1) ih
theorem emp_some {r : List (Option Nat)} (h : 0 < emp r) : ∃ k : Nat, r[k]? = some none := by
  unfold emp at h
  obtain ⟨c, hc⟩ := List.exists_mem_of_length_pos h
  obtain ⟨h1, h2⟩ := List.mem_filter.mp hc
  cases c with
  | none => exact List.mem_iff_getElem?.mp h1
  | some n => cases h2
/-- while there is an empty post there is an open one -/
theorem open_some {t : List Nat} {r : List (Option Nat)} (c : Chart t) (len : r.length = t.length + 1) : ∀ k : Nat, k < t.length + 1 → hold r k = false → ∃ j, j ∈ openL t r
  | 0, h, e => ⟨0, List.mem_filter.mpr ⟨List.mem_range.mpr h, by unfold opn; rw [e]; rfl⟩⟩
  | k + 1, h, e => by
    obtain ⟨p, hp⟩ := chart_has (t := t) (j := k + 1) (by omega) h
    have lp : p ≤ k := c _ _ hp
    cases q : hold r p with
    | true => exact ⟨k + 1, List.mem_filter.mpr ⟨List.mem_range.mpr h, by unfold opn; rw [e, par_at hp, q]; simp⟩⟩
    | false => exact open_some c len p (by omega) q
theorem open_pos {t : List Nat} {r : List (Option Nat)} (c : Chart t) (len : r.length = t.length + 1) (h : 0 < emp r) : 1 ≤ (openL t r).length := by
  obtain ⟨k, e⟩ := emp_some h
  have lk : k < t.length + 1 := by rw [← len]; exact (List.getElem?_eq_some_iff.mp e).1
  obtain ⟨j, hj⟩ := open_some c len k lk (by rw [hold_at e]; rfl)
  exact List.length_pos_of_mem hj
theorem open_len (t : List Nat) (r : List (Option Nat)) : (openL t r).length ≤ t.length + 1 := by
  have := List.length_filter_le (opn t r) (List.range (t.length + 1))
  rw [List.length_range] at this
  exact this
/-- the place as answered -/
def posD (r : List (Option Nat)) (n : Nat) : PD := if some n ∈ r then .int ((r.findIdx fun c => decide (c = some n) : Nat) : Int) else .none
theorem pos_at {r : List (Option Nat)} {j n : Nat} (h : r[j]? = some (some n)) (f : ∀ m, m < j → r[m]? ≠ some (some n)) : posD r n = .int j := by
  unfold posD
  rw [if_pos (List.mem_of_getElem? h)]
  have lj := (List.getElem?_eq_some_iff.mp h).1
  have e : (r.findIdx fun c => decide (c = some n)) = j := by
    refine (List.findIdx_eq lj).mpr ⟨?_, fun m l => ?_⟩
    · rw [(List.getElem?_eq_some_iff.mp h).2]; simp
    · have := f m l
      rw [List.getElem?_eq_getElem (by omega)] at this
      exact decide_eq_false fun z => this (congrArg some z)
  rw [e]
theorem pos_no {r : List (Option Nat)} {n : Nat} (h : some n ∉ r) : posD r n = .none := by unfold posD; rw [if_neg h]
/-! shown -/
theorem int_show {n : Nat} (h : n < 2 ^ 62) : ((n : Int).natAbs.log2 < 1920) := by
  rw [Int.natAbs_natCast]
  by_cases z : n = 0
  · subst z; decide
  · exact Nat.lt_trans ((Nat.log2_lt z).mpr h) (by decide)
theorem show_all : ∀ l : List Nat, (∀ n ∈ l, n < 2 ^ 62) → PyData.showableAll (intsD l) = true ∧ PyData.hasDictAll (intsD l) = false ∧ PyData.depthAll (intsD l) = 0 ∧ ((PyData.shownAll (intsD l)).map (·.length)).sum ≤ 70 * l.length ∧ (PyData.shownAll (intsD l)).length = l.length
  | [], _ => ⟨rfl, rfl, rfl, Nat.le_refl _, rfl⟩
  | n :: l, h => by
    obtain ⟨h1, h2, h3, h4, h5⟩ := show_all l fun m z => h m (List.mem_cons_of_mem _ z)
    have a := int_show (h n List.mem_cons_self)
    have b : (Str.ofString (toString (n : Int))).length ≤ 64 := by
      rw [ofString_length]
      refine Nat.le_trans (int_text_length_le (k := 63) (by decide) ?_) (by decide)
      rw [Int.natAbs_natCast]
      by_cases z : n = 0
      · subst z; decide
      · exact Nat.lt_trans ((Nat.log2_lt z).mpr (h n List.mem_cons_self)) (by decide)
    refine ⟨?_, ?_, ?_, ?_, ?_⟩
    · show (PyData.showable (.int n) && _) = true
      rw [Bool.and_eq_true]
      exact ⟨decide_eq_true a, h1⟩
    · show (PyData.hasDict (.int n) || PyData.hasDictAll (intsD l)) = false
      rw [h2]; rfl
    · show max (PyData.depth (.int n)) (PyData.depthAll (intsD l)) = 0
      rw [h3]; rfl
    · show ((Str.ofString (toString (n : Int))).length + ((PyData.shownAll (intsD l)).map (·.length)).sum) ≤ _
      rw [List.length_cons]
      omega
    · show (PyData.shown (.int n) :: PyData.shownAll (intsD l)).length = _
      rw [List.length_cons, h5, List.length_cons]
theorem strOk_app {a b : Str} (ha : PyData.strOk a = true) (hb : PyData.strOk b = true) : PyData.strOk (a ++ b) = true := by
  unfold PyData.strOk at *
  have e : (a ++ b).cps = a.cps ++ b.cps := rfl
  rw [e, Array.all_append, ha, hb]
  rfl
theorem text_ok : ∀ (ts : List Str) (k : Nat) (acc : Str), PyData.strOk acc = true → (∀ t ∈ ts, PyData.strOk t = true) → PyData.strOk (textFrom k acc ts) = true
  | [], _, _, h, _ => h
  | t :: ts, k, acc, h, g => text_ok ts (k + 1) _ (strOk_app (strOk_app h (strOk_of _)) (g t List.mem_cons_self)) fun u z => g u (List.mem_cons_of_mem _ z)
theorem shown_ints_ok (l : List Nat) : PyData.strOk (PyData.shown (.list (intsD l))) = true := by
  show PyData.strOk (textFrom 0 "[" (PyData.shownAll (intsD l)) ++ "]") = true
  refine strOk_app (text_ok _ _ _ (strOk_of _) ?_) (strOk_of _)
  induction l with
  | nil => intro t h; cases h
  | cons n l ih =>
    intro t h
    have h' : t ∈ Str.ofString (toString (n : Int)) :: PyData.shownAll (intsD l) := h
    rcases List.mem_cons.mp h' with z | z
    · rw [z]; exact strOk_of _
    · exact ih t z
end MU

namespace MU
open PySem PySem.Spec L2
/-! a list of lists of one's own, none in another place -/
structure Nst (K : PySem.W.Frag) (F H0 H : Hp) (p : Addr) (qs : List Addr) (ls : List (List PD)) : Prop where
  f0 : Same F H0
  st : Stp m0 F H0 F H
  hp : H p = some (.lst (qs.map V.ref))
  np : H0 p = none
  len : qs.length = ls.length
  nd : (p :: qs).Nodup
  at_ : ∀ (i : Nat) (q : Addr) (l : List PD), qs[i]? = some q → ls[i]? = some l → H0 q = none ∧ ∃ vs, H q = some (.lst vs) ∧ DpAll K F vs l
section
variable {K : PySem.W.Frag} {F H0 H : Hp} {p : Addr} {qs : List Addr} {ls : List (List PD)}
theorem Nst.live (N : Nst K F H0 H p qs ls) {q : Addr} (h : q ∈ qs) : H0 q = none ∧ ∃ vs, H q = some (.lst vs) := by
  obtain ⟨i, hi⟩ := List.mem_iff_getElem?.mp h
  have li : i < ls.length := by rw [← N.len]; exact (List.getElem?_eq_some_iff.mp hi).1
  obtain ⟨h1, vs, h2, _⟩ := N.at_ i q ls[i] hi (List.getElem?_eq_getElem li)
  exact ⟨h1, vs, h2⟩
theorem Nst.old (N : Nst K F H0 H p qs ls) {a : Addr} {o : HO} (e : H0 a = some o) : a ≠ p ∧ a ∉ qs := ⟨fun z => (by rw [z, N.np] at e; cases e), fun z => (by rw [(N.live z).1] at e; cases e)⟩
/-- one more list, new and empty -/
theorem Nst.more (N : Nst K F H0 H p qs ls) {q : Addr} (hq : H q = none) : Nst K F H0 (upd (upd H q (.lst [])) p (.lst (qs.map V.ref ++ [.ref q]))) p (qs ++ [q]) (ls ++ [[]]) := by
  have q0 : H0 q = none := by
    cases e : H0 q with
    | none => rfl
    | some o => rw [N.st.hs _ _ e] at hq; cases hq
  have pq : q ≠ p := fun z => by rw [z, N.hp] at hq; cases hq
  have nq : q ∉ qs := fun z => by
    obtain ⟨_, vs, e⟩ := N.live z
    rw [e] at hq
    cases hq
  have out : ∀ {a : Addr} {o : HO}, H0 a = some o → a ≠ p ∧ a ≠ q := fun {a o} e => ⟨(N.old e).1, fun z => (by rw [z, q0] at e; cases e)⟩
  refine ⟨N.f0, ⟨Same.refl F, fun a o e => ?_, fun a o _ e => ?_, fun _ e _ => e, fun a n => up_some (up_some (N.st.hn a n)), fun n => ((N.st.nd n).put ok_lst).put ok_lst⟩, ?_, N.np, ?_, ?_, fun i r l hi hl => ?_⟩
  · obtain ⟨a1, a2⟩ := out (N.f0 a o e)
    rw [upd_ne a1, upd_ne a2]
    exact N.st.fh a o e
  · obtain ⟨a1, a2⟩ := out e
    rw [upd_ne a1, upd_ne a2]
    exact N.st.hs a o e
  · rw [upd_same, List.map_append]
    rfl
  · rw [List.length_append, List.length_append, N.len]
    rfl
  · have := N.nd
    rw [List.nodup_cons] at this ⊢
    refine ⟨fun z => ?_, List.nodup_append.mpr ⟨this.2, List.nodup_cons.mpr ⟨List.not_mem_nil, List.nodup_nil⟩, fun a ha b hb => ?_⟩⟩
    · rcases List.mem_append.mp z with z | z
      · exact this.1 z
      · rw [List.mem_singleton] at z
        exact pq z.symm
    · rw [List.mem_singleton] at hb
      subst hb
      exact fun z => nq (z ▸ ha)
  · by_cases c : i < qs.length
    · rw [List.getElem?_append_left c] at hi
      rw [List.getElem?_append_left (by rw [← N.len]; exact c)] at hl
      obtain ⟨h1, vs, h2, h3⟩ := N.at_ i r l hi hl
      have rq : r ≠ q := fun z => nq (z ▸ List.mem_of_getElem? hi)
      have rp : r ≠ p := fun z => by
        have := N.nd
        rw [List.nodup_cons] at this
        exact this.1 (z ▸ List.mem_of_getElem? hi)
      exact ⟨h1, vs, by rw [upd_ne rp, upd_ne rq]; exact h2, h3⟩
    · rw [List.getElem?_append_right (by omega)] at hi
      rw [List.getElem?_append_right (by rw [← N.len]; omega), ← N.len] at hl
      have e : i - qs.length = 0 := by
        have := (List.getElem?_eq_some_iff.mp hi).1
        rw [List.length_singleton] at this
        omega
      rw [e] at hi hl
      cases hi
      cases hl
      exact ⟨q0, [], by rw [upd_ne pq, upd_same], .nil⟩
/-- an item at the end of one of the lists -/
theorem Nst.push (N : Nst K F H0 H p qs ls) {j : Nat} {q : Addr} {l : List PD} {vs : List V} {v : V} {d : PD} (hq : qs[j]? = some q) (hl : ls[j]? = some l) (hv : H q = some (.lst vs)) (hd : Dp K F v d) : Nst K F H0 (upd H q (.lst (vs ++ [v]))) p qs (ls.set j (l ++ [d])) := by
  obtain ⟨q0, vs', e1, dl⟩ := N.at_ j q l hq hl
  rw [hv] at e1
  cases e1
  have pq : p ≠ q := fun z => by
    have := N.nd
    rw [List.nodup_cons] at this
    exact this.1 (z ▸ List.mem_of_getElem? hq)
  have out : ∀ {a : Addr} {o : HO}, H0 a = some o → a ≠ q := fun {a o} e => fun z => by rw [z, q0] at e; cases e
  refine ⟨N.f0, ⟨Same.refl F, fun a o e => ?_, fun a o _ e => ?_, fun _ e _ => e, fun a n => up_some (N.st.hn a n), fun n => (N.st.nd n).put ok_lst⟩, ?_, N.np, by rw [List.length_set]; exact N.len, N.nd, fun i r m hi hm => ?_⟩
  · rw [upd_ne (out (N.f0 a o e))]
    exact N.st.fh a o e
  · rw [upd_ne (out e)]
    exact N.st.hs a o e
  · rw [upd_ne pq]
    exact N.hp
  · by_cases c : j = i
    · subst c
      rw [hq] at hi
      cases hi
      rw [List.getElem?_set_self (List.getElem?_eq_some_iff.mp hl).1] at hm
      cases hm
      exact ⟨q0, _, upd_same, da_app dl (.cons hd .nil)⟩
    · rw [List.getElem?_set_ne c] at hm
      obtain ⟨h1, ws, h2, h3⟩ := N.at_ i r m hi hm
      have rq : r ≠ q := fun z => by
        have nd := (List.nodup_cons.mp N.nd).2
        obtain ⟨l1, e1⟩ := List.getElem?_eq_some_iff.mp hi
        obtain ⟨l2, e2⟩ := List.getElem?_eq_some_iff.mp hq
        exact c ((List.getElem_inj nd).mp (e2.trans (z.symm.trans e1.symm)))
      exact ⟨h1, ws, by rw [upd_ne rq]; exact h2, h3⟩
theorem nst_da {F2 : Hp} : ∀ {qs : List Addr} {ls : List (List PD)}, qs.length = ls.length → (∀ (i : Nat) (q : Addr) (l : List PD), qs[i]? = some q → ls[i]? = some l → ∃ vs, F2 q = some (.lst vs) ∧ DpAll K F2 vs l) → DpAll K F2 (qs.map V.ref) (ls.map PyData.list)
  | [], [], _, _ => .nil
  | q :: qs, l :: ls, e, h => by
    obtain ⟨vs, h1, h2⟩ := h 0 q l rfl rfl
    exact .cons (.lst (.inl (.inl h1)) h2) (nst_da (by simpa using e) fun i q l a b => h (i + 1) q l a b)
open Classical in
/-- nothing of it changes any more -/
theorem Nst.frz (N : Nst K F H0 H p qs ls) : ∃ F2, Stp m0 F H0 F2 H ∧ Dp K F2 (.ref p) (.list (ls.map .list)) := by
  let F2 : Hp := fun a => if a = p ∨ a ∈ qs then H a else F a
  have inn : ∀ {a : Addr}, a = p ∨ a ∈ qs → F2 a = H a := fun h => if_pos h
  have out : ∀ {a : Addr} {o : HO}, H0 a = some o → F2 a = F a := fun {a o} e => if_neg fun z => by
    rcases z with z | z
    · exact (N.old e).1 z
    · exact (N.old e).2 z
  have ff : Same F F2 := fun a o e => by rw [out (N.f0 a o e)]; exact e
  refine ⟨F2, ⟨ff, fun a o e => ?_, N.st.hh, fun a e n => ?_, N.st.hn, N.st.nd⟩, .lst (.inl (.inl ((inn (.inl rfl)).trans N.hp))) (nst_da N.len fun i q l h1 h2 => ?_)⟩
  · by_cases c : a = p ∨ a ∈ qs
    · rw [inn c] at e
      exact e
    · have : F2 a = F a := if_neg c
      rw [this] at e
      exact N.st.fh a o e
  · cases z : H0 a with
    | none => exact absurd z n
    | some o => rw [out z]; exact e
  · obtain ⟨_, vs, e1, e2⟩ := N.at_ i q l h1 h2
    exact ⟨vs, (inn (.inr (List.mem_of_getElem? h1))).trans e1, da_up ff _ _ e2⟩
end
/-! the posts directly below each post -/
def kids (t : List Nat) (n k : Nat) : List Nat := (List.range n).filter fun j => decide (0 < j) && decide (par t j = k)
def kidsL (t : List Nat) (n : Nat) : List (List PD) := (List.range (t.length + 1)).map fun k => intsD (kids t n k)
theorem kids_one (t : List Nat) (k : Nat) : kids t 1 k = [] := rfl
theorem kids_more (t : List Nat) (n k : Nat) (h : 0 < n) : kids t (n + 1) k = kids t n k ++ if par t n = k then [n] else [] := by
  unfold kids
  rw [List.range_succ, List.filter_append, List.filter_cons, List.filter_nil, decide_eq_true h, Bool.true_and]
  by_cases c : par t n = k
  · rw [if_pos c, if_pos (decide_eq_true c)]
  · rw [if_neg c, if_neg (by rw [decide_eq_false c]; decide)]
theorem kidsL_one (t : List Nat) : kidsL t 1 = List.replicate (t.length + 1) [] := by
  refine List.ext_getElem? fun i => ?_
  unfold kidsL
  rw [List.getElem?_map]
  by_cases c : i < t.length + 1
  · rw [List.getElem?_range c, List.getElem?_replicate_of_lt c]
    rfl
  · rw [List.getElem?_eq_none (by rw [List.length_range]; omega), List.getElem?_eq_none (by rw [List.length_replicate]; omega)]
    rfl
theorem kidsL_at {t : List Nat} {n k : Nat} (h : k < t.length + 1) : (kidsL t n)[k]? = some (intsD (kids t n k)) := by
  unfold kidsL
  rw [List.getElem?_map, List.getElem?_range h]
  rfl
theorem kidsL_more {t : List Nat} {n p : Nat} (h : 0 < n) (lp : p < t.length + 1) (e : par t n = p) : kidsL t (n + 1) = (kidsL t n).set p (intsD (kids t n p) ++ [.int (n : Int)]) := by
  refine List.ext_getElem? fun i => ?_
  by_cases c : i < t.length + 1
  · rw [kidsL_at c, kids_more t n i h]
    by_cases z : p = i
    · subst z
      rw [if_pos e, List.getElem?_set_self (by unfold kidsL; rw [List.length_map, List.length_range]; exact lp)]
      unfold intsD
      rw [List.map_append]
      rfl
    · rw [if_neg (by rw [e]; exact z), List.append_nil, List.getElem?_set_ne z, kidsL_at c]
  · have l1 : (kidsL t (n + 1)).length = t.length + 1 := by unfold kidsL; rw [List.length_map, List.length_range]
    have l2 : (kidsL t n).length = t.length + 1 := by unfold kidsL; rw [List.length_map, List.length_range]
    rw [List.getElem?_eq_none (by omega), List.getElem?_eq_none (by rw [List.length_set]; omega)]
theorem kids_len (t : List Nat) (n k : Nat) : (kids t n k).length ≤ n := by
  have := List.length_filter_le (fun j => decide (0 < j) && decide (par t j = k)) (List.range n)
  rw [List.length_range] at this
  exact this
theorem under_run {K : PySem.W.Frag} {F H : Hp} {v : V} {Q : VK} {t : List Nat} (hF : Fz F H) (hv : Dp K F v (chartD t)) (ct : Chart t) (lt : t.length < 1000)
    (k : ∀ v F2 H2, Stp m0 F H F2 H2 → Dp K F2 v (.list ((kidsL t (t.length + 1)).map .list)) → Q v H2) :
    (tSeq (tAsg (tLc (iTup K (tVar 0)) (gName 2) tYes (tLst tNil) [2]) (gName 1))
      (tSeq (tFor (iRng2 (tCons (tC (.int 1)) (tCons (tCB (rLen K) (tCons (tVar 0) tNil)) tNil))) (gName 2)
        (tDrop (tBM K "list" rAppend (tOp (rIxL K) (tVar 1) (tOp (rIxT K) (tVar 0) (tVar 2))) (tCons (tVar 2) tNil)))) (tRet (tVar 1)))) { nx := fun _ H' => Q .non H', rt := Q } [some v, none, none] H := by
  obtain ⟨a, xs, rfl, hs, hd⟩ := dp_tuple hv
  have lx : xs.length = t.length + 1 := (da_len hd).trans (chart_len t)
  refine ⟨_, rfl, a, rfl, ⟨xs, sqt_up hF.s hs⟩, fun D nD => ⟨fun i m H' => m = t.length + 1 - i ∧ i ≤ t.length + 1 ∧ ∃ qs, Nst K F H H' D qs (List.replicate i []), ⟨t.length + 1, rfl, Nat.zero_le _, [], ⟨hF.s, .mk1 hF.s nD ok_lst, upd_same, nD, rfl, List.nodup_cons.mpr ⟨List.not_mem_nil, List.nodup_nil⟩, fun i q l e => by cases e⟩⟩, ?_⟩⟩
  rintro i m H' ⟨rfl, li, qs, N⟩
  have sq := sqt_up (hF.s.trans N.st.hs) hs
  by_cases c : i < t.length + 1
  · refine .inr ⟨⟨xs, xs[i]'(by omega), sq, List.getElem?_eq_getElem _⟩, fun H' => i + 1 ≤ t.length + 1 ∧ ∃ qs, Nst K F H H' D qs (List.replicate (i + 1) []), fun H' h => ⟨t.length + 1 - (i + 1), by omega, rfl, h⟩, ?_⟩
    rintro x H'' ⟨rfl, _⟩
    refine ⟨rfl, ?_⟩
    unfold tYes
    dsimp only
    rw [if_pos rfl]
    refine ⟨by show 0 ≤ sizeLine; exact Nat.zero_le _, fun q hq => ⟨qs.map V.ref, ?_, ?_, c, qs ++ [q], ?_⟩⟩
    · rw [upd_ne (fun z => by rw [← z, N.hp] at hq; cases hq)]
      exact N.hp
    · rw [List.length_map, N.len, List.length_replicate]
      exact lt_line (by omega)
    · have := N.more hq
      rw [List.replicate_succ']
      exact this
  · refine .inl ⟨⟨xs, sq, by omega⟩, ?_⟩
    have ei : i = t.length + 1 := by omega
    subst ei
    rw [← kidsL_one] at N
    refine ⟨_, rfl, a, xs, rfl, .inr sq, 1, (xs.length : Int), rfl, ⟨by decide, by decide, by omega, by omega⟩, fun i m σ H' => m = t.length - i ∧ i ≤ t.length ∧ (∃ z, σ = [some (.ref a), some (.ref D), z]) ∧ ∃ qs, Nst K F H H' D qs (kidsL t (i + 1)), ⟨t.length, rfl, Nat.zero_le _, ⟨_, rfl⟩, qs, N⟩, ?_⟩
    rintro i m σ H' ⟨rfl, li, ⟨z, rfl⟩, qs, N⟩
    have sq := sqt_up (hF.s.trans N.st.hs) hs
    by_cases c : i < t.length
    · refine .inr ⟨by show i < ((xs.length : Int) - 1).toNat; omega, fun σ H' => i + 1 ≤ t.length ∧ (∃ z, σ = [some (.ref a), some (.ref D), z]) ∧ ∃ qs, Nst K F H H' D qs (kidsL t (i + 1 + 1)), fun σ H' h => ⟨t.length - (i + 1), by omega, rfl, h⟩, ?_⟩
      rintro x H'' ⟨rfl, rfl⟩
      obtain ⟨p, hp⟩ : ∃ p, t[i]? = some p := ⟨_, List.getElem?_eq_getElem c⟩
      have lp := ct i p hp
      obtain ⟨w, hw, ew⟩ := da_get hd (chart_at hp)
      have ew := dp_int ew
      subst ew
      have ls1 : (kidsL t (i + 1)).length = t.length + 1 := by unfold kidsL; rw [List.length_map, List.length_range]
      obtain ⟨q, hq⟩ : ∃ q, qs[p]? = some q := ⟨_, List.getElem?_eq_getElem (by rw [N.len, ls1]; omega)⟩
      have hk := kidsL_at (t := t) (n := i + 1) (k := p) (by omega)
      obtain ⟨q0, vs, hqv, dq⟩ := N.at_ p q _ hq hk
      have lv : vs.length ≤ i + 1 := by
        rw [da_len dq]
        unfold intsD
        rw [List.length_map]
        exact kids_len t _ _
      have ei : (1 : Int) + ((i : Nat) : Int) = ((i + 1 : Nat) : Int) := by omega
      refine ⟨_, rfl, _, rfl, _, rfl, a, xs, _, _, rfl, rfl, sq, ?_, D, qs.map V.ref, (p : Int), .ref q, rfl, rfl, .inl (.inl N.hp), ?_, .inl ⟨rfl, vs, .inl (.inl hqv)⟩, ⟨_, rfl, q, vs, _, rfl, rfl, hqv, ?_, ?_⟩⟩
      · rw [ei]
        have : (xs)[i + 1]? = some (V.int p) := hw
        unfold atI ixN
        rw [if_pos (by omega), if_pos (by omega), Int.toNat_natCast]
        exact this
      · have l1 : (qs.map V.ref).length = t.length + 1 := by rw [List.length_map, N.len, ls1]
        unfold atI ixN
        rw [if_pos (by omega), if_pos (by omega), Int.toNat_natCast]
        show (qs.map V.ref)[p]? = _
        rw [List.getElem?_map, hq]
        rfl
      · exact lt_line (by omega)
      · refine ⟨c, ⟨_, rfl⟩, qs, ?_⟩
        have := N.push hq hk hqv (Dp.int (K := K) (H := F) ((i + 1 : Nat) : Int))
        rw [kidsL_more (p := p) (by omega) (by omega) (par_at (k := i + 1) hp), ei]
        exact this
    · have e1 : i = t.length := by omega
      subst e1
      refine .inl ⟨by show ((xs.length : Int) - 1).toNat ≤ t.length; omega, ⟨_, rfl, ?_⟩⟩
      obtain ⟨F2, st, dp⟩ := N.frz
      exact k _ F2 _ st dp
end MU

namespace MU
open PySem PySem.Spec L2
/-! ## defs that change a list that they are given (their second argument of three) -/
section
variable {K : PySem.W.Frag} {w : World} {δ δ' : List Slot} {te ta tb : TE} {t : TS} {d x y : PD} {ds es xs ys : List PD} {nx bk ct : PN} {rt : List Slot → Ret → Prop} {i : Nat} {b : Bool}
theorem opt_join {σ : L2.St} {j : Nat} {v : V} (h : (σ[j]?).join = some v) : σ[j]? = some (some v) := by
  cases e : σ[j]? with
  | none => rw [e] at h; cases h
  | some o => rw [e] at h; exact congrArg some h
/-- the object of one slot has been changed by somebody else -/
theorem Sig.turnS {F0 H0 F H F2 H2 : Hp} {m : Addr → Prop} {σ : L2.St} {p : Addr} {s s' : Slot} (S : Sig K w F0 H0 m F H σ δ) (hi : δ[i]? = some s) (hm : s.mt = true) (hp : σ[i]? = some (some (.ref p))) (st : Stp (fun a => a = p) F H F2 H2)
    (ok : SlotOk K w F2 H2 (some (.ref p)) s') (hm' : s'.mt = true) (hl : s'.lc = s.lc) : Sig K w F0 H0 m F2 H2 σ (δ.set i s') := by
  have lt := (List.getElem?_eq_some_iff.mp hi).1
  have fr := S.fr i s p hi hm hp
  have slot : ∀ (j : Nat) (z : Slot), i ≠ j → (δ.set i s')[j]? = some z → δ[j]? = some z := fun j z n e => by
    rw [List.getElem?_set_ne n] at e
    exact e
  have self : (δ.set i s')[i]? = some s' := List.getElem?_set_self lt
  have apart : ∀ (j : Nat) (z : Slot) (q : Addr), i ≠ j → δ[j]? = some z → z.mt = true → (σ[j]?).join = some (.ref q) → q ≠ p := fun j z q n e mz h y => by
    subst y
    exact S.dis i j s z _ n hi e hm mz hp (opt_join h)
  refine ⟨⟨S.st.ff.trans st.ff, st.fh, fun a o na e => st.hh a o (fun z => ?_) (S.st.hh a o na e), fun a e na => st.nj a (S.st.nj a e na) (S.st.hn a na), fun a na => st.hn a (S.st.hn a na), fun nd => st.nd (S.st.nd nd)⟩, by rw [List.length_set]; exact S.len, fun j z e => ?_, fun j k si sj v jk ej ek mj mk => ?_, fun j z q e ms ep => ?_, S.n0⟩
  · subst z
    cases q : s.lc with
    | false => exact na (fr.2 q)
    | true => rw [fr.1 q] at e; cases e
  · by_cases n : i = j
    · subst n
      rw [self] at e
      cases e
      rw [hp]
      exact ok
    · have e' := slot j z n e
      have q := S.ok j z e'
      cases z with
      | emp => exact trivial
      | d x => obtain ⟨v, h1, h2⟩ := q; exact ⟨v, h1, dp_up st.ff _ _ h2⟩
      | own b xs =>
        obtain ⟨q, vs, h1, h2, h3, h4⟩ := q
        exact ⟨q, vs, h1, st.nj q h2 (by rw [h3]; exact fun z => nomatch z), st.hh q _ (apart j _ q n e' rfl h1) h3, da_up st.ff _ _ h4⟩
      | gen b' n' =>
        obtain ⟨q, h1, h2, a, b, c, h3, h4⟩ := q
        exact ⟨q, h1, st.nj q h2 (by rw [h3]; exact fun z => nomatch z), a, b, c, st.hh q _ (apart j _ q n e' rfl h1) h3, h4⟩
      | set S' n' =>
        obtain ⟨q, h1, h2, h3⟩ := q
        exact ⟨q, h1, st.nj q h2 (by rw [h3]; exact fun z => nomatch z), st.hh q _ (apart j _ q n e' rfl h1) h3⟩
      | ob o9 =>
        obtain ⟨q, h1, h2, h3⟩ := q
        exact ⟨q, h1, st.nj q h2 (by rw [h3]; exact fun z => nomatch z), st.hh q _ (apart j _ q n e' rfl h1) h3⟩
  · have mtx : ∀ (l : Nat) (sl : Slot), (δ.set i s')[l]? = some sl → sl.mt = true → ∃ s2, δ[l]? = some s2 ∧ s2.mt = true := fun l sl e1 e2 => by
      by_cases z : i = l
      · subst z; exact ⟨_, hi, hm⟩
      · exact ⟨sl, slot l sl z e1, e2⟩
    obtain ⟨s1, a1, b1⟩ := mtx j si ej mj
    obtain ⟨s2, a2, b2⟩ := mtx k sj ek mk
    exact S.dis j k s1 s2 v jk a1 a2 b1 b2
  · by_cases n : i = j
    · subst n
      rw [self] at e
      cases e
      have r := S.fr i s q hi hm ep
      exact ⟨fun y => r.1 (hl.symm.trans y), fun y => r.2 (hl.symm.trans y)⟩
    · exact S.fr j z q (slot j z n e) ms ep
def spM (K : PySem.W.Frag) (R : PD → List PD → PD → List PD → PD → Prop) : Sp := fun vs H Q _ => ∃ F p v1 v3 ws d1 d3 xs ys d, vs = [v1, .ref p, v3] ∧ Fz F H ∧ F p = none ∧ H p = some (.lst ws) ∧ DpAll K F ws xs ∧ Dp K F v1 d1 ∧ Dp K F v3 d3 ∧ R d1 xs d3 ys d ∧
  ∀ v F2 H2 us, Stp (fun a => a = p) F H F2 H2 → F2 p = none → H2 p = some (.lst us) → DpAll K F2 us ys → Dp K F2 v d → Q v H2
theorem len_M {R : PD → List PD → PD → List PD → PD → Prop} : ∀ vs H Q E, spM K R vs H Q E → vs.length = 3 := fun vs H Q E ⟨_, _, _, _, _, _, _, _, _, _, e, _⟩ => by rw [e]; rfl
theorem start_sigM {N : List Str} {F H : Hp} {p : Addr} {v1 v3 : V} {ws : List V} {d1 d3 : PD} (s : Fz F H) (fp : F p = none) (hp : H p = some (.lst ws)) (hw : DpAll K F ws xs) (h1 : Dp K F v1 d1) (h3 : Dp K F v3 d3) :
    Sig K w F H (fun a => a = p) F H (L2.start N [v1, .ref p, v3]) (.d d1 :: .own false xs :: .d d3 :: List.replicate (N.length - 3) .emp) := by
  have e0 : L2.start N [v1, .ref p, v3] = some v1 :: some (.ref p) :: some v3 :: List.replicate (N.length - 3) none := rfl
  rw [e0]
  have mt1 : ∀ (i : Nat) (s : Slot), (Slot.d d1 :: .own false xs :: .d d3 :: List.replicate (N.length - 3) .emp)[i]? = some s → s.mt = true → i = 1 ∧ s = .own false xs := fun i s e ms => by
    match i, e with
    | 0, e => cases e; cases ms
    | 1, e => cases e; exact ⟨rfl, rfl⟩
    | 2, e => cases e; cases ms
    | i + 3, e =>
      have : s = .emp := List.eq_of_mem_replicate (List.mem_of_getElem? (show (List.replicate (N.length - 3) Slot.emp)[i]? = some s from e))
      subst this
      cases ms
  refine ⟨.refl s.s, by simp, fun i z e => ?_, fun i j si sj v ij ei ej mi mj => ?_, fun i z q e ms ep => ?_, s.n⟩
  · match i, e with
    | 0, e => cases e; exact ⟨v1, rfl, h1⟩
    | 1, e => cases e; exact ⟨p, ws, rfl, fp, hp, hw⟩
    | 2, e => cases e; exact ⟨v3, rfl, h3⟩
    | i + 3, e =>
      have : z = .emp := List.eq_of_mem_replicate (List.mem_of_getElem? (show (List.replicate (N.length - 3) Slot.emp)[i]? = some z from e))
      subst this
      exact trivial
  · exact absurd ((mt1 i si ei mi).1.trans (mt1 j sj ej mj).1.symm) ij
  · obtain ⟨rfl, rfl⟩ := mt1 i z e ms
    cases ep
    exact ⟨(fun y => by cases y), fun _ => rfl⟩
theorem run_spM {N : List Str} {F H : Hp} {p : Addr} {v1 v3 : V} {ws : List V} {d1 d3 : PD} {Q : VK} (s : Fz F H) (fp : F p = none) (hp : H p = some (.lst ws)) (hw : DpAll K F ws xs) (h1 : Dp K F v1 d1) (h3 : Dp K F v3 d3)
    (c : ∀ v F2 H2 us, Stp (fun a => a = p) F H F2 H2 → F2 p = none → H2 p = some (.lst us) → DpAll K F2 us ys → Dp K F2 v d → Q v H2)
    (r : Run K w t (.d d1 :: .own false xs :: .d d3 :: List.replicate (N.length - 3) .emp) no1 (fun δ' r => δ'[1]? = some (.own false ys) ∧ (r = .d d ∨ ∃ zs, r = .own zs ∧ d = .list zs)) no1 no1) : t { nx := fun _ H' => Q .non H', rt := Q } (L2.start N [v1, .ref p, v3]) H := by
  refine r F H _ F H _ (start_sigM s fp hp hw h1 h3) _ (fun _ _ _ _ z => z.elim) (fun δ' r v F2 H2 σ2 e f S R => ?_) (fun _ _ _ _ z => z.elim) (fun _ _ _ _ z => z.elim)
  obtain ⟨q, us, e1, f1, g1, hu⟩ := S.own e.1
  have pq : q = p := (S.fr 1 _ q e.1 rfl e1).2 rfl
  subst pq
  rcases e.2 with rfl | ⟨zs, rfl, rfl⟩
  · exact c v F2 H2 us S.st f1 g1 hu R
  · obtain ⟨p2, vs, rfl, f2, h0, g2, d2⟩ := R
    have ne : q ≠ p2 := fun z => by rw [z, h0] at hp; cases hp
    refine c _ (upd F2 p2 (.lst vs)) H2 us ⟨S.st.ff.trans (same_new f2), fun b o eb => ?_, S.st.hh, fun b eb nb => ?_, S.st.hn, S.st.nd⟩ (by rw [upd_ne ne]; exact f1) g1 (da_up (same_new f2) _ _ hu) (.lst (.inl (.inl upd_same)) (da_up (same_new f2) _ _ d2))
    · by_cases z : b = p2
      · subst z; rw [upd_same] at eb; cases eb; exact g2
      · rw [upd_ne z] at eb; exact S.fh b o eb
    · rw [upd_ne (fun z => nb (by rw [z]; exact h0))]
      exact S.st.nj b eb nb
/-- f(a, xs, c), the answer dropped -/
theorem run_callM {R : PD → List PD → PD → List PD → PD → Prop} {E : XK} {d1 d3 : PD} (h1 : EvD K w ta δ d1) (hi : δ[i]? = some (.own b xs)) (h3 : EvD K w tb δ d3) (r : R d1 xs d3 ys d) (c : nx (δ.set i (.own b ys))) :
    Run K w (tDrop (tCall (spM K R) [] E (tCons ta (tCons (tVar i) (tCons tb tNil))))) δ nx rt bk ct := fun _ _ _ F H σ S D a _ _ _ =>
  h1 _ _ _ _ _ _ S _ fun v1 F2 H2 s e1 => by
    obtain ⟨p, ws, ep, _, _, _⟩ := (S.up s).own hi
    refine ⟨_, ep, h3 _ _ _ _ _ _ (S.up s) _ fun v3 F3 H3 s2 e3 => ?_⟩
    have S3 := (S.up s).up s2
    obtain ⟨p', ws, ep', fp, hp, hw⟩ := S3.own hi
    rw [ep] at ep'
    cases ep'
    refine ⟨F3, p, v1, v3, ws, d1, d3, xs, ys, d, rfl, S3.fz, fp, hp, hw, dp_up s2.ff _ _ e1, e3, r, fun v F4 H4 us st f4 h4 hu _ => ?_⟩
    exact a _ F4 H4 σ c (s.ff.trans (s2.ff.trans st.ff)) (S3.turnS hi rfl ep st ⟨p, us, rfl, f4, h4, hu⟩ rfl rfl)
end
end MU

namespace MU
open PySem PySem.Spec PyProof.Rows L2
/-! ## def f(a, b, *rest) -/
section
variable {P : Program} {w : World} {K : PySem.W.Frag} {mg : Str → Option Value} {base : Heap}
/-- a promise by data, whatever the number of arguments -/
def spR (K : PySem.W.Frag) (R : List PD → PD → Prop) : Sp := fun vs H Q _ => ∃ F ds d, Fz F H ∧ DpAll K F vs ds ∧ R ds d ∧ ∀ v F2 H2, Stp m0 F H F2 H2 → Dp K F2 v d → Q v H2
theorem star2 {k : Nat} {f : Addr} {name qual : Str} {params : Arguments} {body : List Stmt} {scope : Scope} {dV kV doc pm cdv ct oc : Value} {an od : Option Addr} {osl : Array (Option Value)} {N : List Str} {p1 p2 pv : Str} {R : List PD → PD → Prop}
    (lk : K.lookup f = some ⟨oc, od, .func (PySem.W.fnOf name qual params body scope dV kV doc pm an cdv ct), osl⟩) (hcd : PySem.W.codeIn K cdv qual = true) (S : FnScope N [p1, p2, pv] scope)
    (hb : ∀ us rest : List Value, us.length = [p1, p2].length → bindArgs (PySem.W.fnOf name qual params body scope dV kV doc pm an cdv ct) ⟨us ++ rest, []⟩ = (newTuple rest >>= fun t => pure ([p1, p2].zip us ++ [(pv, t)])))
    (hbody : ∀ (A : Around) (outer : List Env) (s : Shared) (H : Hp) (vs : List V) (Q : VK) (E : XK), Room k (A.deeper (envOfC qual scope s.heap.objs.size f cdv)) → spS K 3 R vs H Q E →
      ∃ t, PSs (cxOf CX0 P w K mg base N qual scope f cdv A outer s H E).nox body t ∧ t { nx := fun _ H' => Q .non H', rt := Q } (L2.start N vs) H) :
    FnR P w K mg base CX0 (k + 1) f (spR K fun ds d => ∃ d1 d2 l, ds = d1 :: d2 :: l ∧ l.length ≤ 100000 ∧ R [d1, d2, .tuple l] d) := by
  intro A outer s H us vs Q E room e0 rel ⟨F, ds, d, fz, hd, ⟨d1, d2, l, e, ll, r⟩, q⟩
  subst e
  obtain ⟨v1, v2, rest, rfl, h1, h2, hl⟩ : ∃ v1 v2 rest, vs = v1 :: v2 :: rest ∧ Dp K F v1 d1 ∧ Dp K F v2 d2 ∧ DpAll K F rest l := by
    cases hd with
    | cons h1 hd =>
      cases hd with
      | cons h2 hl => exact ⟨_, _, _, rfl, h1, h2, hl⟩
  obtain ⟨u1, u2, u3, rfl, r1, r2, rr⟩ : ∃ u1 u2 u3, us = u1 :: u2 :: u3 ∧ RelV v1 u1 ∧ RelV v2 u2 ∧ Vals rest u3 := by
    cases rel with
    | cons r1 rel =>
      cases rel with
      | cons r2 rr => exact ⟨_, _, _, rfl, r1, r2, rr⟩
  have len : rest.length ≤ sizeLine := by rw [da_len hl]; exact small_line ll
  have free : H s.heap.objs.size = none := e0.hok.fresh (Nat.le_refl _)
  have l3 : u3.length ≤ sizeLine := by rw [← rr.length]; exact len
  refine StX.run_bnd lk hcd S room e0 (G := fun xs H2 => ∃ p o, H p = none ∧ o.dict = none ∧ xs = [v1, v2, V.ref p] ∧ H2 = upd H p (.frz o (.tup rest))) (fun A' Ex Q' h => ?_) fun s2 H2 xs ⟨p, o, hp, ho, ex, eH⟩ room' => ?_
  · have b := hb [u1, u2] u3 rfl
    rw [show u1 :: u2 :: u3 = [u1, u2] ++ u3 from rfl, b]
    refine wpAny_bind (wpAny_newTuple (wpAny_pure ?_) l3)
    let ob : Obj := { cls := .type "tuple", data := .seq u3.toArray }
    have got : (s.heap.push ob).get? s.heap.objs.size = some ob := Heap.get?_push_size _ rfl
    have new : ObjOk P w (upd H s.heap.objs.size (.frz ob (.tup rest))) (s.heap.push ob) s.heap.objs.size (.frz ob (.tup rest)) := ⟨got, len, u3, rr, ⟨_, got, rfl, _, rfl⟩⟩
    have un := StX.un_laid (fs := frs outer) (s := s) (o := ob) (u := .frz ob (.tup rest)) free
    exact h _ _ [v1, v2, V.ref s.heap.objs.size] [u1, u2, Value.ref s.heap.objs.size] (StX.env0_laid e0 new) un rfl (fun _ _ z => z) (.cons r1 (.cons r2 (.cons rfl .nil))) rfl ⟨_, ob, free, rfl, rfl, rfl⟩
  · subst ex eH
    have st : Stp m0 F H (upd F p (.frz o (.tup rest))) (upd H p (.frz o (.tup rest))) := .frz fz.s hp (ok_tup ho)
    have up := same_new (o := HO.frz o (.tup rest)) (fz.s.free hp)
    obtain ⟨t, hder, hend⟩ := hbody A outer s2 _ _ Q E room' ⟨_, [d1, d2, .tuple l], d, ⟨st.fh, st.nd fz.n⟩, .cons (dp_up up _ _ h1) (.cons (dp_up up _ _ h2) (.cons (.tup (.inl (.inr ⟨o, upd_same⟩)) (da_up up _ _ hl)) .nil)), rfl, r, fun v F2 H2 s3 e3 => q v F2 H2 (st.trans s3) e3⟩
    exact ⟨t, hder.nox, hend⟩
end
section
variable {P : Program} {w : World} {K : PySem.W.Frag} {mg : Str → Option Value} {base : Heap}
theorem fun_okS {x qual : Str} {st : Stmt} {f : Addr} {fd : FuncData} {k : Nat} {N : List Str} {p1 p2 pv : Str} {R : List PD → PD → Prop} (F : Fun K x qual st f fd) (S : FnScope N [p1, p2, pv] (defScope st))
    (hb : ∀ (kV doc pm : Value) (an : Option Addr) (cdv ct : Value) (us rest : List Value), us.length = [p1, p2].length → bindArgs (PySem.W.fnOf x qual (defArgs st) (defBody st) (defScope st) .none kV doc pm an cdv ct) ⟨us ++ rest, []⟩ = (newTuple rest >>= fun t => pure ([p1, p2].zip us ++ [(pv, t)])))
    (hbody : ∀ (cdv : Value), PySem.W.codeIn K cdv qual = true → ∀ (A : Around) (outer : List Env) (s : Shared) (H : Hp) (vs : List V) (Q : VK) (E : XK), Room k (A.deeper (envOfC qual (defScope st) s.heap.objs.size f cdv)) → spS K 3 R vs H Q E →
      ∃ t, PSs (cxOf CX0 P w K mg base N qual (defScope st) f cdv A outer s H E).nox (defBody st) t ∧ t { nx := fun _ H' => Q .non H', rt := Q } (L2.start N vs) H) :
    FnR P w K mg base CX0 (k + 1) f (spR K fun ds d => ∃ d1 d2 l, ds = d1 :: d2 :: l ∧ l.length ≤ 100000 ∧ R [d1, d2, .tuple l] d) := by
  obtain ⟨_, _, _, _, _, _, cdv, _, _, e0, lk, hcd⟩ := F.ex
  subst e0
  exact star2 lk hcd S (hb _ _ _ _ _ _) (hbody cdv hcd)
end
section
variable {X : Cx} {k : Nat} {f : Addr} {sp : Sp} {x : Str} {p pos : Pos} {e : Expr} {es : List Expr} {t : TA}
def tCallR (sp : Sp) (t : TA) : TE := fun σ H Q => t σ H fun vs H1 => sp vs H1 Q E0
theorem pe_callR (F : FnR X.prog X.w X.K X.mg X.base CX0 k f sp) (hr : Room k X.A) (hg : Gl X x) (hm : X.mg x = some (.ref f)) (hk : PySem.W.keepIn X.K (.ref f) = true) (hx : Passes CX0 X E0)
    (args : PA X (e :: es) t) (hdb : (x == ("__debug__" : Str)) = false := by decide) (he : starEach (e :: es) X.env = (false, eval e X.env) :: starEach es X.env := by rfl) (hpl : (backTo pos (starEach es X.env)).any (·.1) = false := by rfl) :
    PE X (.Call (.Name x p) (e :: es) [] pos) (tCallR sp t) :=
  ⟨fun pins s σ H Q I h => wpAny_Call_Name_kw (ld_glob I hg hm (PySem.W.callWith_K (h₀ := X.base) I.ok.mod.kin hk (thn (args.run pos pins s σ H _ I h) fun us s1 ⟨vs, H1, I1, r, q⟩ => ⟨I1.kIn, wpAny_call (run_fnR F hr hx I1 r q)⟩) he hpl) hdb)⟩
end
section
variable {K : PySem.W.Frag} {w : World} {δ : List Slot} {tz : TA} {d : PD} {ds : List PD} {R : List PD → PD → Prop}
theorem ev_callS (h : EvA K w tz δ ds) (r : R ds d) : EvD K w (tCallR (spR K R) tz) δ d := fun _ _ _ F H _ S Q q =>
  h _ _ _ _ _ _ S _ fun vs F2 H2 s e => ⟨F2, ds, d, (S.up s).fz, e, r, fun v F3 H3 s3 e3 => q v F3 H3 (s.trans s3) e3⟩
end
end MU

namespace MU
open PySem PySem.Spec L2
/-! ## departures -/
def underD (t : List Nat) : PD := .list ((kidsL t (t.length + 1)).map .list)
/-- the held posts directly below, each behind its holder -/
def heldP (t : List Nat) (r : List (Option Nat)) (q : Nat) : List (Int × Int) := (kids t (t.length + 1) q).filterMap fun (k : Nat) => match r[k]? with
  | some (some n) => some (((n : Nat) : Int), ((k : Nat) : Int))
  | _ => none
def nextD (t : List Nat) (r : List (Option Nat)) (q : Nat) : PD := match heldP t r q with
  | [] => .none
  | z :: l => .int (minP z l).2
theorem heldP_D (t : List Nat) (r : List (Option Nat)) (q : Nat) : (intsD (kids t (t.length + 1) q)).filterMap (fun d => match d with | .int k => (match r[k.toNat]? with | some (some n) => some (prI ((n : Int), k)) | _ => none) | _ => none) = (heldP t r q).map prI := by
  unfold heldP intsD
  rw [List.filterMap_map, List.map_filterMap]
  congr 1
  funext k
  show (match r[(k : Int).toNat]? with | some (some n) => some (prI ((n : Int), (k : Int))) | _ => none) = _
  rw [Int.toNat_natCast]
  cases r[k]? with
  | none => rfl
  | some c => cases c <;> rfl
def nxt (t : List Nat) (r : List (Option Nat)) (q : Nat) : Option Nat := match heldP t r q with
  | [] => none
  | z :: l => some (minP z l).2.toNat
theorem min_mem (z : Int × Int) (l : List (Int × Int)) : minP z l ∈ z :: l := by
  unfold minP
  induction l generalizing z with
  | nil => exact List.mem_cons_self
  | cons y l ih =>
    rw [List.foldl_cons]
    have := ih (if lessP y z then y else z)
    rcases List.mem_cons.mp this with q | q
    · rw [q]
      split
      · exact List.mem_cons_of_mem _ List.mem_cons_self
      · exact List.mem_cons_self
    · exact List.mem_cons_of_mem _ (List.mem_cons_of_mem _ q)
theorem held_mem {t : List Nat} {r : List (Option Nat)} {q : Nat} {z : Int × Int} (h : z ∈ heldP t r q) : ∃ k m : Nat, z = ((m : Int), (k : Int)) ∧ k ∈ kids t (t.length + 1) q ∧ r[k]? = some (some m) := by
  obtain ⟨k, hk, e⟩ := List.mem_filterMap.mp h
  refine ⟨k, ?_⟩
  cases c : r[k]? with
  | none => rw [c] at e; cases e
  | some x =>
    cases x with
    | none => rw [c] at e; cases e
    | some m =>
      rw [c] at e
      exact ⟨m, (Option.some.inj e).symm, hk, rfl⟩
theorem kids_mem {t : List Nat} {n k q : Nat} (c : Chart t) (h : k ∈ kids t n q) (ln : n ≤ t.length + 1) : k < n ∧ 0 < k ∧ q < k ∧ t[k - 1]? = some q := by
  obtain ⟨h1, h2⟩ := List.mem_filter.mp h
  rw [Bool.and_eq_true] at h2
  have lk := List.mem_range.mp h1
  have k0 := of_decide_eq_true h2.1
  have e := of_decide_eq_true h2.2
  obtain ⟨p, hp⟩ := chart_has (t := t) (j := k) k0 (by omega)
  rw [par_at hp] at e
  subst e
  have := c _ _ hp
  exact ⟨lk, k0, by omega, hp⟩
theorem nxt_some {t : List Nat} {r : List (Option Nat)} {q k : Nat} (c : Chart t) (h : nxt t r q = some k) : q < k ∧ k < t.length + 1 ∧ t[k - 1]? = some q ∧ (∃ m, r[k]? = some (some m)) ∧ nextD t r q = .int k := by
  unfold nxt at h
  unfold nextD
  cases e : heldP t r q with
  | nil => rw [e] at h; cases h
  | cons z l =>
    rw [e] at h
    have h := Option.some.inj h
    obtain ⟨k', m, e1, hk, hm⟩ := held_mem (e ▸ min_mem z l : minP z l ∈ heldP t r q)
    rw [e1, Int.toNat_natCast] at h
    subst h
    obtain ⟨a1, a2, a3, a4⟩ := kids_mem c hk (Nat.le_refl _)
    refine ⟨a3, a1, a4, ⟨m, hm⟩, ?_⟩
    show PyData.int (minP z l).2 = _
    rw [e1]
theorem nxt_none {t : List Nat} {r : List (Option Nat)} {q : Nat} (h : nxt t r q = none) : nextD t r q = .none := by
  unfold nxt at h
  unfold nextD
  cases e : heldP t r q with
  | nil => rfl
  | cons z l => rw [e] at h; cases h
/-- who moves up, from the post q that has become empty -/
def depF (t : List Nat) : Nat → List (Option Nat) → Nat → List (Option Nat) × List PD
  | 0, r, q => (r.set q none, [])
  | n + 1, r, q => match nxt t r q with
    | none => (r.set q none, [])
    | some k => ((depF t n (r.set q (r[k]?.join)) k).1, .tuple [cellD (r[k]?.join), .int (k : Nat), .int (q : Nat)] :: (depF t n (r.set q (r[k]?.join)) k).2)
def leftL (t : List Nat) (r : List (Option Nat)) (j : Nat) : List (Option Nat) := (depF t t.length r j).1
def movesD (t : List Nat) (r : List (Option Nat)) (j : Nat) : List PD := (depF t t.length r j).2
theorem row_put (r : List (Option Nat)) (k : Nat) (c : Option Nat) : rowL (r.set k c) = (rowL r).set k (cellD c) := by
  show (r.set k c).map cellD = _
  rw [List.map_set]
/-- the rows after people have left one after the other -/
def idxOf (r : List (Option Nat)) (n : Nat) : Nat := r.findIdx fun c => decide (c = some n)
theorem idx_eq {r : List (Option Nat)} {j n : Nat} (h : r[j]? = some (some n)) (f : ∀ m, m < j → r[m]? ≠ some (some n)) : idxOf r n = j := by
  have e := pos_at h f
  unfold posD at e
  rw [if_pos (List.mem_of_getElem? h)] at e
  have e2 : ((idxOf r n : Nat) : Int) = (j : Int) := PyData.int.inj e
  omega
def allLeft (t : List Nat) : List (Option Nat) → List Nat → List (Option Nat)
  | r, [] => r
  | r, n :: l => allLeft t (leftL t r (idxOf r n)) l
theorem depF_len (t : List Nat) : ∀ (f : Nat) (r : List (Option Nat)) (q : Nat), (depF t f r q).1.length = r.length
  | 0, r, q => List.length_set ..
  | f + 1, r, q => by
    unfold depF
    split
    · exact List.length_set ..
    · rw [depF_len, List.length_set]
theorem left_len (t : List Nat) (r : List (Option Nat)) (j : Nat) : (leftL t r j).length = r.length := depF_len ..
/-- nobody appears or disappears but the one who leaves -/
def Leave1 (t : List Nat) (l : List Nat) (r : List (Option Nat)) : Prop := match l with
  | [] => True
  | n :: l => some n ∈ r ∧ Leave1 t l (leftL t r (idxOf r n))
end MU

namespace MU
open PySem PySem.Spec L2
theorem min_le (z : Int × Int) (l : List (Int × Int)) : ∀ y ∈ z :: l, (minP z l).1 ≤ y.1 := by
  unfold minP
  induction l generalizing z with
  | nil =>
    intro y hy
    rw [List.mem_singleton] at hy
    subst hy
    exact Int.le_refl _
  | cons x l ih =>
    intro y hy
    rw [List.foldl_cons]
    have first : (if lessP x z then x else z).1 ≤ z.1 ∧ (if lessP x z then x else z).1 ≤ x.1 := by
      unfold lessP
      split
      · rename_i h
        rw [Bool.or_eq_true, Bool.and_eq_true] at h
        rcases h with h | h
        · have := of_decide_eq_true h
          omega
        · have := of_decide_eq_true h.1
          omega
      · rename_i h
        have h1 : ¬ x.1 < z.1 := fun q => h (by rw [decide_eq_true q]; rfl)
        omega
    have top := ih (if lessP x z then x else z) _ List.mem_cons_self
    rcases List.mem_cons.mp hy with q | q
    · subst q
      omega
    · rcases List.mem_cons.mp q with q | q
      · subst q
        omega
      · exact ih _ y (List.mem_cons_of_mem _ q)
theorem held_in {t : List Nat} {r : List (Option Nat)} {q k m : Nat} (hk : k < t.length + 1) (h0 : 0 < k) (hp : t[k - 1]? = some q) (h : r[k]? = some (some m)) : ((m : Int), (k : Int)) ∈ heldP t r q := by
  refine List.mem_filterMap.mpr ⟨k, List.mem_filter.mpr ⟨List.mem_range.mpr hk, ?_⟩, by rw [h]⟩
  rw [Bool.and_eq_true]
  exact ⟨decide_eq_true h0, decide_eq_true (par_at hp)⟩
/-- rows where post q is being left: what it holds no longer counts -/
structure Gap (t : List Nat) (r : List (Option Nat)) (q : Nat) : Prop where
  len : r.length = t.length + 1
  lt : q < t.length + 1
  inj : ∀ i j n : Nat, i ≠ q → j ≠ q → r[i]? = some (some n) → r[j]? = some (some n) → i = j
  ord : ∀ k p n : Nat, t[k]? = some p → k + 1 ≠ q → p ≠ q → r[k + 1]? = some (some n) → ∃ m, r[p]? = some (some m) ∧ m < n
  grand : ∀ k n : Nat, t[k]? = some q → r[k + 1]? = some (some n) → q = 0 ∨ ∃ p m, t[q - 1]? = some p ∧ r[p]? = some (some m) ∧ m < n
theorem gap_of {t : List Nat} {r : List (Option Nat)} {q : Nat} (c : Chart t) (a : Arr t r) (h : q < t.length + 1) : Gap t r q := by
  refine ⟨a.len, h, fun i j n _ _ => a.inj i j n, fun k p n hp _ _ => a.ord k p n hp, fun k n hp hk => ?_⟩
  by_cases q0 : q = 0
  · exact .inl q0
  · obtain ⟨p, hp2⟩ := chart_has (t := t) (j := q) (by omega) h
    obtain ⟨m, hm, lm⟩ := a.ord k q n hp hk
    obtain ⟨g, hg, lg⟩ := a.ord (q - 1) p m hp2 (by rw [show q - 1 + 1 = q by omega]; exact hm)
    exact .inr ⟨p, g, hp2, hg, by omega⟩
theorem gap_none {t : List Nat} {r : List (Option Nat)} {q : Nat} (c : Chart t) (g : Gap t r q) (h : nxt t r q = none) : Arr t (r.set q none) := by
  have lq : q < r.length := by rw [g.len]; exact g.lt
  have get : ∀ {j n : Nat}, (r.set q none)[j]? = some (some n) → j ≠ q ∧ r[j]? = some (some n) := fun {j n} e => by
    by_cases z : j = q
    · subst z
      rw [List.getElem?_set_self lq] at e
      cases e
    · rw [List.getElem?_set_ne (Ne.symm z)] at e
      exact ⟨z, e⟩
  refine ⟨by rw [List.length_set]; exact g.len, fun i j n h1 h2 => g.inj i j n (get h1).1 (get h2).1 (get h1).2 (get h2).2, fun k p n hp hk => ?_⟩
  obtain ⟨kq, hk2⟩ := get hk
  have pq : p ≠ q := fun z => by
    subst z
    have lk : k + 1 < t.length + 1 := by have := (List.getElem?_eq_some_iff.mp hp).1; omega
    have hin := held_in (r := r) lk (Nat.succ_pos k) hp hk2
    unfold nxt at h
    cases e : heldP t r p with
    | nil => rw [e] at hin; cases hin
    | cons z l => rw [e] at h; cases h
  obtain ⟨m, hm, lm⟩ := g.ord k p n hp kq pq hk2
  exact ⟨m, by rw [List.getElem?_set_ne (Ne.symm pq)]; exact hm, lm⟩
theorem gap_some {t : List Nat} {r : List (Option Nat)} {q k m : Nat} (c : Chart t) (g : Gap t r q) (h : nxt t r q = some k) (hm : r[k]? = some (some m)) : Gap t (r.set q (some m)) k := by
  obtain ⟨qk, lk, tk, _, _⟩ := nxt_some c h
  have lq : q < r.length := by rw [g.len]; exact g.lt
  have get : ∀ {j n : Nat}, (r.set q (some m))[j]? = some (some n) → (j = q ∧ n = m) ∨ (j ≠ q ∧ r[j]? = some (some n)) := fun {j n} e => by
    by_cases z : j = q
    · subst z
      rw [List.getElem?_set_self lq] at e
      exact .inl ⟨rfl, (Option.some.inj (Option.some.inj e)).symm⟩
    · rw [List.getElem?_set_ne (Ne.symm z)] at e
      exact .inr ⟨z, e⟩
  have put : ∀ {j n : Nat}, j ≠ q → r[j]? = some (some n) → (r.set q (some m))[j]? = some (some n) := fun {j n} z e => by rw [List.getElem?_set_ne (Ne.symm z)]; exact e
  have self : (r.set q (some m))[q]? = some (some m) := List.getElem?_set_self lq
  -- the one who moves up is the most senior below q
  have least : ∀ j n : Nat, t[j]? = some q → r[j + 1]? = some (some n) → j + 1 ≠ k → m < n := fun j n hp hj ne => by
    have lj : j + 1 < t.length + 1 := by have := (List.getElem?_eq_some_iff.mp hp).1; omega
    have hin := held_in (r := r) lj (Nat.succ_pos j) hp hj
    have h' := h
    unfold nxt at h'
    cases e : heldP t r q with
    | nil => rw [e] at h'; cases h'
    | cons z l =>
      rw [e] at h' hin
      have h' := Option.some.inj h'
      obtain ⟨k', m', e1, hk', hm'⟩ := held_mem (e ▸ min_mem z l : minP z l ∈ heldP t r q)
      rw [e1, Int.toNat_natCast] at h'
      subst h'
      rw [hm] at hm'
      cases hm'
      have le := min_le z l _ hin
      rw [e1] at le
      have le : (m : Int) ≤ (n : Int) := le
      have ne2 : m ≠ n := fun z => by
        subst z
        have jq : j + 1 ≠ q := by have := c _ _ hp; omega
        exact ne (g.inj (j + 1) k' m jq (by omega) hj hm)
      omega
  refine ⟨by rw [List.length_set]; exact g.len, lk, fun i j n hi hj h1 h2 => ?_, fun j p n hp hj hpk h1 => ?_, fun j n hp h1 => ?_⟩
  · rcases get h1 with ⟨i1, e1⟩ | ⟨i1, e1⟩
    · rcases get h2 with ⟨j1, _⟩ | ⟨j1, e2⟩
      · rw [i1, j1]
      · subst e1
        exact absurd (g.inj j k n j1 (by omega) e2 hm) hj
    · rcases get h2 with ⟨j1, e2⟩ | ⟨j1, e2⟩
      · subst e2
        exact absurd (g.inj i k n i1 (by omega) e1 hm) hi
      · exact g.inj i j n i1 j1 e1 e2
  · rcases get h1 with ⟨i1, e1⟩ | ⟨i1, e1⟩
    · -- post q itself: its parent's holder is more senior than who moves up
      subst e1
      have hk1 : t[k - 1]? = some q := tk
      rcases g.grand (k - 1) n hk1 (by rw [show k - 1 + 1 = k by omega]; exact hm) with z | ⟨p', m', hp', hm', l'⟩
      · omega
      · rw [← i1, show j + 1 - 1 = j by omega, hp] at hp'
        cases hp'
        have pj := c _ _ hp
        exact ⟨m', put (by omega) hm', l'⟩
    · by_cases pq : p = q
      · subst pq
        exact ⟨m, self, least j n hp e1 hj⟩
      · obtain ⟨m', hm', l'⟩ := g.ord j p n hp i1 pq e1
        exact ⟨m', put pq hm', l'⟩
  · refine .inr ⟨q, m, tk, self, ?_⟩
    have jq : j + 1 ≠ q := by have := c _ _ hp; omega
    rcases get h1 with ⟨i1, _⟩ | ⟨i1, e1⟩
    · exact absurd i1 jq
    · obtain ⟨m', hm', l'⟩ := g.ord j k n hp jq (by omega) e1
      rw [hm] at hm'
      cases hm'
      exact l'
/-- a departure leaves an arrangement -/
theorem dep_arr {t : List Nat} (c : Chart t) : ∀ (f : Nat) (r : List (Option Nat)) (q : Nat), Gap t r q → t.length ≤ q + f → Arr t (depF t f r q).1
  | 0, r, q, g, h => by
    refine gap_none c g ?_
    cases e : nxt t r q with
    | none => rfl
    | some k =>
      obtain ⟨a, b, _⟩ := nxt_some c e
      omega
  | f + 1, r, q, g, h => by
    unfold depF
    cases e : nxt t r q with
    | none => exact gap_none c g e
    | some k =>
      obtain ⟨qk, lk, _, ⟨m, hm⟩, _⟩ := nxt_some c e
      have ej : r[k]?.join = some m := by rw [hm]; rfl
      dsimp only
      rw [ej]
      exact dep_arr c f _ k (gap_some c g e hm) (by omega)
theorem left_arr {t : List Nat} {r : List (Option Nat)} {j : Nat} (c : Chart t) (a : Arr t r) (h : j < t.length + 1) : Arr t (leftL t r j) := dep_arr c _ _ _ (gap_of c a h) (by omega)
/-- the people after a departure -/
theorem dep_mem {t : List Nat} (c : Chart t) : ∀ (f : Nat) (r : List (Option Nat)) (q : Nat), Gap t r q → t.length ≤ q + f → ∀ n, some n ∈ (depF t f r q).1 ↔ some n ∈ r.set q none
  | 0, r, q, g, h, n => Iff.rfl
  | f + 1, r, q, g, h, n => by
    unfold depF
    cases e : nxt t r q with
    | none => exact Iff.rfl
    | some k =>
      obtain ⟨qk, lk, _, ⟨m, hm⟩, _⟩ := nxt_some c e
      have ej : r[k]?.join = some m := by rw [hm]; rfl
      have lq : q < r.length := by rw [g.len]; exact g.lt
      dsimp only
      rw [ej]
      refine (dep_mem c f _ k (gap_some c g e hm) (by omega) n).trans ?_
      constructor
      · intro h
        obtain ⟨i, hi⟩ := List.mem_iff_getElem?.mp h
        have ik : i ≠ k := fun z => by
          subst z
          rw [List.getElem?_set_self (by rw [List.length_set, g.len]; exact lk)] at hi
          cases hi
        rw [List.getElem?_set_ne (Ne.symm ik)] at hi
        by_cases iq : i = q
        · subst iq
          rw [List.getElem?_set_self lq] at hi
          cases hi
          exact List.mem_of_getElem? (show (r.set i none)[k]? = some (some n) by rw [List.getElem?_set_ne (by omega)]; exact hm)
        · rw [List.getElem?_set_ne (Ne.symm iq)] at hi
          exact List.mem_of_getElem? (show (r.set q none)[i]? = some (some n) by rw [List.getElem?_set_ne (Ne.symm iq)]; exact hi)
      · intro h
        obtain ⟨i, hi⟩ := List.mem_iff_getElem?.mp h
        have iq : i ≠ q := fun z => by
          subst z
          rw [List.getElem?_set_self lq] at hi
          cases hi
        rw [List.getElem?_set_ne (Ne.symm iq)] at hi
        by_cases ik : i = k
        · subst ik
          rw [hm] at hi
          cases hi
          exact List.mem_of_getElem? (show ((r.set q (some n)).set i none)[q]? = some (some n) by rw [List.getElem?_set_ne (by omega), List.getElem?_set_self lq])
        · exact List.mem_of_getElem? (show ((r.set q (some m)).set k none)[i]? = some (some n) by rw [List.getElem?_set_ne (Ne.symm ik), List.getElem?_set_ne (Ne.symm iq)]; exact hi)
theorem left_mem {t : List Nat} {r : List (Option Nat)} {j m : Nat} (c : Chart t) (a : Arr t r) (hj : r[j]? = some (some m)) (n : Nat) : some n ∈ leftL t r j ↔ some n ∈ r ∧ n ≠ m := by
  have lj : j < r.length := (List.getElem?_eq_some_iff.mp hj).1
  refine (dep_mem c _ _ _ (gap_of c a (by rw [← a.len]; exact lj)) (by omega) n).trans ⟨fun h => ?_, fun ⟨h, ne⟩ => ?_⟩
  · obtain ⟨i, hi⟩ := List.mem_iff_getElem?.mp h
    have ij : i ≠ j := fun z => by
      subst z
      rw [List.getElem?_set_self lj] at hi
      cases hi
    rw [List.getElem?_set_ne (Ne.symm ij)] at hi
    exact ⟨List.mem_of_getElem? hi, fun z => ij (a.inj i j m (z ▸ hi) hj)⟩
  · obtain ⟨i, hi⟩ := List.mem_iff_getElem?.mp h
    have ij : i ≠ j := fun z => by
      subst z
      rw [hj] at hi
      cases hi
      exact ne rfl
    exact List.mem_of_getElem? (show (r.set j none)[i]? = some (some n) by rw [List.getElem?_set_ne (Ne.symm ij)]; exact hi)
/-- whoever stands and is named once can leave -/
theorem leave1_of {t : List Nat} (c : Chart t) : ∀ (l : List Nat) (r : List (Option Nat)), Arr t r → (∀ n ∈ l, some n ∈ r) → l.Nodup → Leave1 t l r ∧ Arr t (allLeft t r l)
  | [], r, a, _, _ => ⟨trivial, a⟩
  | n :: l, r, a, h, nd => by
    have hn := h n List.mem_cons_self
    obtain ⟨j, hj, fj⟩ := idx_at hn
    have ej := idx_eq hj fj
    have a2 := left_arr (j := j) c a (by rw [← a.len]; exact (List.getElem?_eq_some_iff.mp hj).1)
    have nd2 := List.nodup_cons.mp nd
    have ih := leave1_of c l (leftL t r j) a2 (fun m hm => (left_mem c a hj m).mpr ⟨h m (List.mem_cons_of_mem _ hm), fun z => nd2.1 (z ▸ hm)⟩) nd2.2
    refine ⟨⟨hn, by rw [ej]; exact ih.1⟩, ?_⟩
    show Arr t (allLeft t (leftL t r (idxOf r n)) l)
    rw [ej]
    exact ih.2
end MU

namespace MU
open PySem PySem.Spec L2
theorem way_up {t : List Nat} (c : Chart t) : ∀ (j : Nat), j < t.length + 1 → ∀ a b, a ∈ way t b → b ∈ way t j → a ∈ way t j := by
  intro j
  induction j using Nat.strongRecOn with
  | _ j ih =>
    intro lj a b ha hb
    by_cases j0 : j = 0
    · subst j0
      rw [way_zero, List.mem_singleton] at hb
      subst hb
      exact ha
    · obtain ⟨p, hp⟩ := chart_has (t := t) (j := j) (by omega) lj
      obtain ⟨e, lp⟩ := way_step c (by omega) hp
      rw [e] at hb ⊢
      rcases List.mem_append.mp hb with z | z
      · exact List.mem_append_left _ (ih p lp (by omega) a b ha z)
      · rw [List.mem_singleton] at z
        subst z
        rw [e] at ha
        exact ha
theorem way_comp {t : List Nat} (c : Chart t) : ∀ (j : Nat), j < t.length + 1 → ∀ a b, a ∈ way t j → b ∈ way t j → a ∈ way t b ∨ b ∈ way t a := by
  intro j
  induction j using Nat.strongRecOn with
  | _ j ih =>
    intro lj a b ha hb
    by_cases j0 : j = 0
    · subst j0
      rw [way_zero, List.mem_singleton] at ha hb
      subst ha hb
      exact .inl (way_self _)
    · obtain ⟨p, hp⟩ := chart_has (t := t) (j := j) (by omega) lj
      obtain ⟨e, lp⟩ := way_step c (by omega) hp
      have ha' := ha
      have hb' := hb
      rw [e] at ha hb
      rcases List.mem_append.mp ha with z | z
      · rcases List.mem_append.mp hb with y | y
        · exact ih p lp (by omega) a b z y
        · rw [List.mem_singleton] at y
          subst y
          exact .inl ha'
      · rw [List.mem_singleton] at z
        subst z
        exact .inr hb'
theorem heap_way {t : List Nat} {r : List (Option Nat)} (c : Chart t) (ar : Arr t r) : ∀ (j : Nat), j < t.length + 1 → ∀ n a, r[j]? = some (some n) → a ∈ way t j → ∃ m, r[a]? = some (some m) ∧ m ≤ n := by
  intro j
  induction j using Nat.strongRecOn with
  | _ j ih =>
    intro lj n a hn ha
    by_cases j0 : j = 0
    · subst j0
      rw [way_zero, List.mem_singleton] at ha
      subst ha
      exact ⟨n, hn, Nat.le_refl _⟩
    · obtain ⟨p, hp⟩ := chart_has (t := t) (j := j) (by omega) lj
      obtain ⟨e, lp⟩ := way_step c (by omega) hp
      rw [e] at ha
      rcases List.mem_append.mp ha with z | z
      · obtain ⟨m, hm, lm⟩ := ar.ord (j - 1) p n hp (by rw [show j - 1 + 1 = j by omega]; exact hn)
        obtain ⟨m', hm', lm'⟩ := ih p lp (by omega) m a hm z
        exact ⟨m', hm', by omega⟩
      · rw [List.mem_singleton] at z
        subst z
        exact ⟨n, hn, Nat.le_refl _⟩
/-- from r to r' people have only moved up on their paths -/
def Up (t : List Nat) (r r' : List (Option Nat)) : Prop := ∀ n j' : Nat, r'[j']? = some (some n) → ∃ j, r[j]? = some (some n) ∧ j' ∈ way t j
theorem Up.refl (t : List Nat) (r : List (Option Nat)) : Up t r r := fun n j h => ⟨j, h, way_self j⟩
theorem Up.trans {t : List Nat} {r r' r'' : List (Option Nat)} (c : Chart t) (l : r.length ≤ t.length + 1) (u : Up t r r') (v : Up t r' r'') : Up t r r'' := fun n j'' h => by
  obtain ⟨j', h1, w1⟩ := v n j'' h
  obtain ⟨j, h2, w2⟩ := u n j' h1
  have lj := (List.getElem?_eq_some_iff.mp h2).1
  exact ⟨j, h2, way_up c j (by omega) _ _ w1 w2⟩
/-- one side of the argument that settles who stands where -/
theorem up_side {t : List Nat} {r r1 r2 : List (Option Nat)} (c : Chart t) (ar : Arr t r) (a1 : Arr t r1) (a2 : Arr t r2) (u1 : Up t r r1) (u2 : Up t r r2) (sub : ∀ n, some n ∈ r1 → some n ∈ r2) {k n : Nat} (same : ∀ j, j < k → r1[j]? = r2[j]?) (h : r1[k]? = some (some n)) : ∃ m, r2[k]? = some (some m) ∧ m ≤ n := by
  obtain ⟨j, hj, wk⟩ := u1 n k h
  have lj : j < t.length + 1 := by rw [← ar.len]; exact (List.getElem?_eq_some_iff.mp hj).1
  obtain ⟨j2, h2⟩ := List.mem_iff_getElem?.mp (sub n (List.mem_of_getElem? h))
  have lj2 : j2 < t.length + 1 := by rw [← a2.len]; exact (List.getElem?_eq_some_iff.mp h2).1
  obtain ⟨j', hj', w2⟩ := u2 n j2 h2
  have e := ar.inj j' j n hj' hj
  subst e
  have lk : k < t.length + 1 := by rw [← a1.len]; exact (List.getElem?_eq_some_iff.mp h).1
  rcases way_comp c j' lj k j2 wk w2 with z | z
  · exact heap_way c a2 j2 lj2 n k h2 z
  · have le := way_le c k lk j2 z
    by_cases e : j2 = k
    · subst e
      exact ⟨n, h2, Nat.le_refl _⟩
    · have s := same j2 (by omega)
      rw [h2] at s
      exact absurd (a1.inj j2 k n s h) e
/-- who only moved up stands in one way only -/
theorem up_unique {t : List Nat} {r r1 r2 : List (Option Nat)} (c : Chart t) (ar : Arr t r) (a1 : Arr t r1) (a2 : Arr t r2) (u1 : Up t r r1) (u2 : Up t r r2) (same : ∀ n, some n ∈ r1 ↔ some n ∈ r2) : r1 = r2 := by
  have all : ∀ k : Nat, r1[k]? = r2[k]? := by
    intro k
    induction k using Nat.strongRecOn with
    | _ k ih =>
      by_cases lk : k < t.length + 1
      · obtain ⟨x, hx⟩ := row_has (r := r1) (k := k) (by rw [a1.len]; exact lk)
        obtain ⟨y, hy⟩ := row_has (r := r2) (k := k) (by rw [a2.len]; exact lk)
        rw [hx, hy]
        cases x with
        | none =>
          cases y with
          | none => rfl
          | some m =>
            obtain ⟨m', h', _⟩ := up_side c ar a2 a1 u2 u1 (fun n => (same n).mpr) (fun j l => (ih j l).symm) hy
            rw [hx] at h'
            cases h'
        | some n =>
          obtain ⟨m, h1, l1⟩ := up_side c ar a1 a2 u1 u2 (fun n => (same n).mp) ih hx
          obtain ⟨n', h2, l2⟩ := up_side c ar a2 a1 u2 u1 (fun n => (same n).mpr) (fun j l => (ih j l).symm) h1
          rw [hx] at h2
          cases h2
          rw [hy] at h1
          cases h1
          rw [show n = m by omega]
      · rw [List.getElem?_eq_none (by rw [a1.len]; omega), List.getElem?_eq_none (by rw [a2.len]; omega)]
  exact List.ext_getElem? all
/-- a departure only moves people up -/
theorem dep_up {t : List Nat} (c : Chart t) : ∀ (f : Nat) (r : List (Option Nat)) (q : Nat), Gap t r q → t.length ≤ q + f → Up t (r.set q none) (depF t f r q).1
  | 0, r, q, g, h => Up.refl t _
  | f + 1, r, q, g, h => by
    unfold depF
    cases e : nxt t r q with
    | none => exact Up.refl t _
    | some k =>
      obtain ⟨qk, lk, tk, ⟨m, hm⟩, _⟩ := nxt_some c e
      have ej : r[k]?.join = some m := by rw [hm]; rfl
      have lq : q < r.length := by rw [g.len]; exact g.lt
      dsimp only
      rw [ej]
      intro n j' hj
      obtain ⟨j1, h1, w1⟩ := dep_up c f _ k (gap_some c g e hm) (by omega) n j' hj
      have jk : j1 ≠ k := fun z => by
        subst z
        rw [List.getElem?_set_self (by rw [List.length_set, g.len]; exact lk)] at h1
        cases h1
      rw [List.getElem?_set_ne (Ne.symm jk)] at h1
      by_cases jq : j1 = q
      · subst jq
        rw [List.getElem?_set_self lq] at h1
        cases h1
        refine ⟨k, by rw [List.getElem?_set_ne (by omega)]; exact hm, ?_⟩
        have e2 := (way_step c (j := k) (p := j1) (by omega) tk).1
        rw [e2]
        exact List.mem_append_left _ w1
      · rw [List.getElem?_set_ne (Ne.symm jq)] at h1
        exact ⟨j1, by rw [List.getElem?_set_ne (Ne.symm jq)]; exact h1, w1⟩
theorem left_up {t : List Nat} {r : List (Option Nat)} {j : Nat} (c : Chart t) (a : Arr t r) (h : j < t.length + 1) : Up t r (leftL t r j) := fun n j' hj => by
  obtain ⟨j1, h1, w1⟩ := dep_up c _ _ _ (gap_of c a h) (by omega) n j' hj
  have jq : j1 ≠ j := fun z => by
    subst z
    rw [List.getElem?_set_self (by rw [a.len]; exact h)] at h1
    cases h1
  rw [List.getElem?_set_ne (Ne.symm jq)] at h1
  exact ⟨j1, h1, w1⟩
theorem all_up {t : List Nat} (c : Chart t) : ∀ (l : List Nat) (r : List (Option Nat)), Arr t r → (∀ n ∈ l, some n ∈ r) → l.Nodup → Up t r (allLeft t r l) ∧ ∀ n, some n ∈ allLeft t r l ↔ some n ∈ r ∧ n ∉ l
  | [], r, a, _, _ => ⟨Up.refl t r, fun n => ⟨fun h => ⟨h, List.not_mem_nil⟩, fun h => h.1⟩⟩
  | n :: l, r, a, h, nd => by
    have hn := h n List.mem_cons_self
    obtain ⟨j, hj, fj⟩ := idx_at hn
    have ej := idx_eq hj fj
    have lj : j < t.length + 1 := by rw [← a.len]; exact (List.getElem?_eq_some_iff.mp hj).1
    have nd2 := List.nodup_cons.mp nd
    have ih := all_up c l (leftL t r j) (left_arr c a lj) (fun m hm => (left_mem c a hj m).mpr ⟨h m (List.mem_cons_of_mem _ hm), fun z => nd2.1 (z ▸ hm)⟩) nd2.2
    have e : allLeft t r (n :: l) = allLeft t (leftL t r j) l := by
      show allLeft t (leftL t r (idxOf r n)) l = _
      rw [ej]
    rw [e]
    refine ⟨Up.trans c (Nat.le_of_eq a.len) (left_up c a lj) ih.1, fun m => (ih.2 m).trans ?_⟩
    rw [left_mem c a hj m, List.mem_cons]
    exact ⟨fun ⟨⟨h1, h2⟩, h3⟩ => ⟨h1, fun z => z.elim h2 h3⟩, fun ⟨h1, h2⟩ => ⟨⟨h1, fun z => h2 (.inl z)⟩, fun z => h2 (.inr z)⟩⟩
/-- the order in which people leave does not matter -/
theorem all_order {t : List Nat} {r : List (Option Nat)} {l l' : List Nat} (c : Chart t) (a : Arr t r) (h : ∀ n ∈ l, some n ∈ r) (nd : l.Nodup) (nd' : l'.Nodup) (same : ∀ n, n ∈ l ↔ n ∈ l') : allLeft t r l = allLeft t r l' := by
  have h' : ∀ n ∈ l', some n ∈ r := fun n hn => h n ((same n).mpr hn)
  refine up_unique c a (leave1_of c l r a h nd).2 (leave1_of c l' r a h' nd').2 (all_up c l r a h nd).1 (all_up c l' r a h' nd').1 fun n => ?_
  rw [(all_up c l r a h nd).2, (all_up c l' r a h' nd').2, same n]
end MU

namespace MU
open PySem PySem.Spec PyProof.Rows L2
/-! enumerate over a list, its pairs known to have no dict -/
def Iel (K : PySem.W.Frag) (a : Addr) : It :=
  ⟨fun i H => ∃ (xs : List V) (x : V), SqL K H a xs ∧ xs[i]? = some x, fun i H v H' => ∃ T x, ∃ o : Obj, v = .ref T ∧ H T = none ∧ o.dict = none ∧ H' = upd H T (.frz o (.tup [.int (i : Nat), x])) ∧ ∀ xs, SqL K H a xs → xs[i]? = some x, fun i H => ∃ xs : List V, SqL K H a xs ∧ xs.length ≤ i⟩
theorem turn_enumL {P : Program} {w : World} {K : PySem.W.Frag} {elts : List Expr} {kk : Nat} {tpos : Pos} (a e it : Addr) :
    Turn P w K (.Tuple elts kk tpos) (Iel K a) [e, it] e (fun i h => (∃ old, IsEnum h e it ((i : Nat) : Int) old) ∧ h.IsListIter it a i ∧ e ≠ it) where
  mem := by simp
  obj := fun i h st b hb => by
    obtain ⟨⟨old, he⟩, ⟨o, ho, hc, hd⟩, _⟩ := st
    have z : b = e ∨ b = it := by simpa using hb
    rcases z with z | z <;> subst z
    · exact ⟨_, he, fun v q => nomatch q⟩
    · exact ⟨o, ho, fun v q => by rw [hd] at q; cases q⟩
  keep := fun i h h' ⟨⟨old, he⟩, hi, ne⟩ k => ⟨⟨old, k e (by simp) _ he⟩, hi.at fun o q => k it (by simp) o q, ne⟩
  item := by
    intro X hP hw hK hc i pins s σ H E I hf st hg
    subst hP hw hK
    obtain ⟨⟨old, he⟩, hit, ne⟩ := st
    obtain ⟨xs, x, hq, hx⟩ := hg
    obtain ⟨its, rv, p, hz⟩ := I.list hq
    obtain ⟨u, hu, ru⟩ := rv.get hx
    have p1 : s.heap.IsList a its.toArray := p.isList
    have ea : e ≠ a := fun z => by
      obtain ⟨o, ho, hcl, _⟩ := p1
      subst z
      have := ho.symm.trans he
      cases this
      simp at hcl
    have ita : a ≠ it := fun z => by
      obtain ⟨o, ho, hcl, _⟩ := p1
      obtain ⟨o2, ho2, hcl2, _⟩ := hit
      subst z
      cases ho.symm.trans ho2
      rw [hcl] at hcl2
      simp at hcl2
    have hel : e < s.heap.objs.size :=
      Heap.lt_size he
    have hil : it < s.heap.objs.size := hit.elim fun _ q => Heap.lt_size q.1
    have lt : i < its.toArray.size := by
      have := (List.getElem?_eq_some_iff.mp hu).1
      simpa using this
    refine wpAny_pyNext_enum_itemD (Draws.list (A := X.A.in1) (I.ok.hd hc) it a ita its.toArray) he ⟨hit, p1⟩ lt ne (by simp [ne, ea]) fun y h' tk hy ho st1 hT hsz hk => ?_
    have yu : y = u := by
      have : its[i]? = some y := by simpa using hy
      rw [hu] at this
      exact (Option.some.inj this).symm
    subst yu
    refine ⟨_, rfl, wpAny_letOwnedTupleGo_enum (s := { s with heap := h', toks := tk + 1 }) ho fun h2 he' sb => ?_⟩
    have hT2 : h2.get? s.heap.objs.size = some { cls := .type "tuple", data := .seq #[.int i tk, y] } := (sb.2 _ (Nat.ne_of_gt hel)).trans hT
    have new : ObjOk X.prog X.w (upd H s.heap.objs.size (.frz { cls := .type "tuple", data := .seq #[.int i tk, y] } (.tup [.int (i : Nat), x]))) h2 s.heap.objs.size (.frz { cls := .type "tuple", data := .seq #[.int i tk, y] } (.tup [.int (i : Nat), x])) :=
      ⟨hT2, by show 2 ≤ sizeLine; decide, [.int i tk, y], .cons ⟨_, rfl⟩ (.cons ru .nil), ⟨_, hT2, rfl, _, rfl⟩⟩
    have I1 : Inv X pins σ (upd H s.heap.objs.size (.frz { cls := .type "tuple", data := .seq #[.int i tk, y] } (.tup [.int (i : Nat), x]))) { s with heap := h2, toks := tk + 1 } :=
      I.turnedNew (ch := [e, it]) (fun c oc away q => (sb.2 c (fun z => away (by simp [z]))).trans (hk c oc (fun z => away (by simp [z])) (fun z => away (by simp [z])) q)) hf (Nat.le_refl _) new
    refine ⟨.ref s.heap.objs.size, _, I1, rfl, ⟨_, x, _, rfl, I.hok.fresh (Nat.le_refl _), rfl, rfl, fun ys hy' => by rw [I.list_inj hy' hq]; exact hx⟩, ⟨⟨y, ?_⟩, st1.1.at fun o q => (sb.2 it (Ne.symm ne)).trans q, ne⟩, fun b hb => ?_⟩
    · rw [show ((i + 1 : Nat) : Int) = (i : Int) + 1 from by omega]; exact he'
    · have lb : b < s.heap.objs.size := by
        have z : b = e ∨ b = it := by simpa using hb
        rcases z with z | z <;> subst z <;> assumption
      rw [upd_ne (Nat.ne_of_lt lb)]
      exact (hf b hb).1
  done := by
    intro X hP hw hK hc i pins s σ H E I hf st hg
    subst hP hw hK
    obtain ⟨⟨old, he⟩, hit, ne⟩ := st
    obtain ⟨xs, hq, hx⟩ := hg
    obtain ⟨its, rv, p, hz⟩ := I.list hq
    have p1 : s.heap.IsList a its.toArray := p.isList
    obtain ⟨f0, f1, f2, f3, f4, f5⟩ := hf it (by simp)
    have hl := rv.length
    have D : wpAny (model X.prog X.w) X.A (pyNext (.ref e)) (fun o s' => o = none ∧ Inv X pins σ H s') E s := by
      have hTy : s.TypeIs (.ref e) "enumerate" := ⟨_, he, rfl⟩
      unfold pyNext
      refine wpAny_bind (wpAny_attempt (wpAny_callSpecial?_slot (name := Str.ofString "__next__") hTy F.slot_enumerate_next (wpAny_call_entry F.slot_enumerate_next hTy F.entry_enumerate_next ?_ (F.args_enumerate_next_1 _))))
      show wpAny _ _ (field (.ref e) 2 >>= _) _ _ _
      refine wpAny_bind (wpAny_field he rfl (x := .ref it) rfl ?_)
      refine wpAny_bind (wpAny_nextOf_list_end (A := X.A.in1) (I.ok.hd hc) hit p1 (by simp; omega) fun h' x eb hx' => ?_)
      obtain ⟨o, ho, hcl⟩ := hx'
      refine wpAny_bind (wpAny_isInstance (T := "StopIteration") (b := true) ⟨o, ho, hcl⟩ isSubtype_stop ?_)
      exact wpAny_pure ⟨rfl, I.turned (t' := s.toks) (fun b o hb q => eb b o hb q) f0 f1 f3 f4 f5⟩
    exact D
  self := fun _ _ _ _ _ st h => st.1.elim fun _ he => wpAny_pyIter_enum he h
def iEnL (K : PySem.W.Frag) (ta : TA) : TI := fun σ H R => ta σ H fun vs H1 => ∃ a xs, vs = [.ref a] ∧ SqL K H1 a xs ∧ R (Iel K a) H1
theorem pi_enumL {X : Cx} {e : Expr} {ta : TA} {p pos tpos : Pos} {elts : List Expr} {kk : Nat} (hg : Gl X "enumerate") (hm : X.mg "enumerate" = none) (ha : PA X [e] ta) (hs : starEach [e] X.env = [(false, eval e X.env)] := by rfl) :
    PI X (.Tuple elts kk tpos) (.Call (.Name "enumerate" p) [e] [] pos) (iEnL X.K ta) := by
  refine ⟨fun pins s σ H R I h => ?_⟩
  refine Call_ (ld_blt I hg hm boot_enumerate (callWith_type1 (thn (ha.run pos pins s σ H _ I h) fun us s1 ⟨vs, H1, I1, r1, q1⟩ => ?_) hs rfl))
  obtain ⟨a, xs, ex, hq, q⟩ := q1
  subst ex
  cases r1 with
  | cons r rr =>
    cases rr
    cases r
    obtain ⟨its, rv, p', hz⟩ := I1.list hq
    refine enumCall (begins_list a its.toArray) p'.isList fun h' he hit hk => wpAny_pyIter_enum he ?_
    have I2 : Inv X pins σ H1 { s1 with heap := h' } :=
      I1.kept (t' := s1.toks) hk
    refine ⟨s1.heap.objs.size + 1, [s1.heap.objs.size + 1, s1.heap.objs.size], _, _, H1, rfl, I2, turn_enumL a (s1.heap.objs.size + 1) s1.heap.objs.size, ⟨⟨.none, he⟩, ⟨_, hit, rfl, rfl⟩, Nat.succ_ne_self _⟩, fun b hb => ?_, q⟩
    have hle : s1.heap.objs.size ≤ b := by
      have z : b = s1.heap.objs.size + 1 ∨ b = s1.heap.objs.size := by simpa using hb
      rcases z with z | z <;> rw [z]
      · exact Nat.le_add_right _ _
      · exact Nat.le_refl _
    exact I1.fpOk hle (I1.hok.fresh hle)
section
variable {K : PySem.W.Frag} {w : World} {δ : List Slot} {te : TE} {ds : List PD}
theorem yl_enumL {F : Hp} {a : Addr} {vs : List V} (hs : SqL K F a vs) (hd : DpAll K F vs ds) : Yl K (Iel K a) F (enumD ds) := fun F' H' f h i =>
  ⟨fun e he => by
    obtain ⟨d, e1, rfl⟩ := enum_at he
    obtain ⟨v, g1, g2⟩ := da_get hd e1
    have sq := h.seq (f.seq hs)
    refine ⟨⟨vs, v, sq, g1⟩, fun z H'' ⟨T, z1, o, ez, hT, ho, eH, same⟩ => ?_⟩
    have := same vs sq
    rw [g1] at this
    cases this
    subst ez eH
    exact ⟨upd F' T (.frz o (.tup [.int (i : Nat), v])), .frz h hT (ok_tup ho), .tup (.inl (.inr ⟨_, upd_same⟩)) (.cons (.int _) (.cons (dp_up (same_new (h.free hT)) _ _ (dp_up f _ _ g2)) .nil))⟩,
   fun l => ⟨vs, h.seq (f.seq hs), by rw [da_len hd]; rw [enum_len] at l; exact l⟩⟩
theorem it_enumL (h : EvD K w te δ (.list ds)) : ItD K w (iEnL K (tCons te tNil)) δ (enumD ds) := fun _ _ _ F H σ S R q =>
  h _ _ _ _ _ _ S _ fun v F2 H2 s e => by
    obtain ⟨a, vs, rfl, hs, hd⟩ := dp_list e
    exact ⟨a, vs, rfl, s.fh.seq hs, q _ F2 H2 s (yl_enumL hs hd)⟩
/-- both, named by the written part: in a comprehension too -/
theorem k_enumT {X : Cx} {e : Expr} {ta : TA} {p pos tpos : Pos} {elts : List Expr} {kk : Nat} (hg : Gl X "enumerate") (hm : X.mg "enumerate" = none) (ha : PA X [e] ta) (hs : starEach [e] X.env = [(false, eval e X.env)] := by rfl) (eK : X.K = K := by rfl) : PI X (.Tuple elts kk tpos) (.Call (.Name "enumerate" p) [e] [] pos) (iEnT K ta) := by
  subst eK
  exact pi_enumT hg hm ha hs
end
/-! what is walked may be a tuple or a list -/
def iOr (a b : TI) : TI := fun σ H R => a σ H R ∨ b σ H R
theorem pi_or {X : Cx} {tg e : Expr} {a b : TI} (h : PI X tg e a) (h2 : PI X tg e b) : PI X tg e (iOr a b) := ⟨fun pins s σ H R I z => z.elim (h.run pins s σ H R I) (h2.run pins s σ H R I)⟩
section
variable {K : PySem.W.Frag} {w : World} {δ : List Slot} {wi wj : TI} {ds : List PD}
theorem it_left (h : ItD K w wi δ ds) : ItD K w (iOr wi wj) δ ds := fun _ _ _ F H σ S R q => .inl (h _ _ _ _ _ _ S R q)
theorem it_right (h : ItD K w wj δ ds) : ItD K w (iOr wi wj) δ ds := fun _ _ _ F H σ S R q => .inr (h _ _ _ _ _ _ S R q)
theorem pi_enum2 {X : Cx} {e : Expr} {ta : TA} {p pos tpos : Pos} {elts : List Expr} {kk : Nat} (hg : Gl X "enumerate") (hm : X.mg "enumerate" = none) (ha : PA X [e] ta) (hs : starEach [e] X.env = [(false, eval e X.env)] := by rfl) (eK : X.K = K := by rfl) : PI X (.Tuple elts kk tpos) (.Call (.Name "enumerate" p) [e] [] pos) (iOr (iEnT K ta) (iEnL K ta)) := by
  subst eK
  exact pi_or (pi_enumT hg hm ha hs) (pi_enumL hg hm ha hs)
theorem k_pi2 {X : Cx} {tg l : Expr} {tl : TE} (hl : PE X l tl) (e : X.K = K := by rfl) : PI X tg l (iOr (iTup K tl) (iList K tl)) := by
  subst e
  exact pi_or (pi_tup hl) (pi_list hl)
end
/-- people as a tuple or a list -/
def peopleV (b : Bool) (l : List Nat) : PD := if b then .tuple (intsD l) else .list (intsD l)
section
variable {K : PySem.W.Frag} {w : World} {δ : List Slot} {te : TE} {l : List Nat}
theorem it_people (b : Bool) (h : EvD K w te δ (peopleV b l)) : ItD K w (iOr (iTup K te) (iList K te)) δ (intsD l) := by
  cases b with
  | true => exact it_left (it_tup h)
  | false => exact it_right (it_list h)
theorem it_peopleE (b : Bool) (h : EvD K w te δ (peopleV b l)) : ItD K w (iOr (iEnT K (tCons te tNil)) (iEnL K (tCons te tNil))) δ (enumD (intsD l)) := by
  cases b with
  | true => exact it_left (it_enumT h)
  | false => exact it_right (it_enumL h)
end
end MU

namespace MU
open PySem PySem.Spec L2
/-! # a def's body as a function of its slots; what the machine does is what the function says -/
inductive Sl where
  | emp
  | d (x : PD)
  | own (b : Bool) (xs : List PD)
  | iset (ks : List Int)
  | nset (ks : List (Option Key))
abbrev Sts := List Sl
inductive Vl where
  | d (x : PD)
  | al (i : Nat)
  | new (xs : List PD)
def Sl.mt : Sl → Bool
  | .emp => false
  | .d _ => false
  | _ => true
/-- a list of the caller's -/
def Sl.giv : Sl → Bool
  | .own false _ => true
  | _ => false
def Sl.to (w : World) : Sl → Slot
  | .emp => .emp
  | .d x => .d x
  | .own b xs => .own b xs
  | .iset ks => .set (fun j => ks.any fun x => decide (x = j)) ks.length
  | .nset ks => setN w (fun k => ks.any fun x => decide (x = k)) ks.length
theorem to_mt (w : World) (s : Sl) : (s.to w).mt = s.mt := by cases s <;> rfl
def stsTo (w : World) (ρ : Sts) : List Slot := ρ.map (Sl.to w)
theorem sts_at {w : World} {ρ : Sts} {i : Nat} {s : Sl} (h : ρ[i]? = some s) : (stsTo w ρ)[i]? = some (s.to w) := by
  unfold stsTo
  rw [List.getElem?_map, h]
  rfl
theorem sts_of {w : World} {ρ : Sts} {i : Nat} {z : Slot} (h : (stsTo w ρ)[i]? = some z) : ∃ s, ρ[i]? = some s ∧ z = s.to w := by
  unfold stsTo at h
  rw [List.getElem?_map] at h
  cases e : ρ[i]? with
  | none => rw [e] at h; cases h
  | some s => rw [e] at h; exact ⟨s, rfl, (Option.some.inj h).symm⟩
theorem sts_set (w : World) (ρ : Sts) (i : Nat) (s : Sl) : stsTo w (ρ.set i s) = (stsTo w ρ).set i (s.to w) := by unfold stsTo; rw [List.map_set]
theorem sts_len (w : World) (ρ : Sts) : (stsTo w ρ).length = ρ.length := List.length_map ..
abbrev Sg (K : PySem.W.Frag) (w : World) (F0 H0 : Hp) (m : Addr → Prop) (F H : Hp) (σ : L2.St) (ρ : Sts) : Prop := Sig K w F0 H0 m F H σ (stsTo w ρ)
/-- the addresses of the objects that the slots may change -/
def Ow (σ : L2.St) (ρ : Sts) (a : Addr) : Prop := ∃ (i : Nat) (s : Sl), ρ[i]? = some s ∧ s.mt = true ∧ σ[i]? = some (some (V.ref a))
def Sub (ρ' ρ : Sts) : Prop := ∀ (i : Nat) (s : Sl), ρ'[i]? = some s → s.mt = true → ∃ s0 : Sl, ρ[i]? = some s0 ∧ s0.mt = true ∧ (s.giv = true → s0.giv = true)
theorem Sub.refl (ρ : Sts) : Sub ρ ρ := fun i s h m => ⟨s, h, m, id⟩
theorem Sub.trans {a b c : Sts} (h : Sub a b) (k : Sub b c) : Sub a c := fun i s e m => by
  obtain ⟨s1, e1, m1, k1⟩ := h i s e m
  obtain ⟨s2, e2, m2, k2⟩ := k i s1 e1 m1
  exact ⟨s2, e2, m2, fun z => k2 (k1 z)⟩
theorem Sub.ow {σ : L2.St} {a b : Sts} (h : Sub a b) {p : Addr} (o : Ow σ a p) : Ow σ b p := by
  obtain ⟨i, s, e, m, r⟩ := o
  obtain ⟨s0, e0, m0, _⟩ := h i s e m
  exact ⟨i, s0, e0, m0, r⟩
structure Go (σ : L2.St) (ρ ρ' : Sts) (F H F2 H2 : Hp) : Prop where
  ff : Same F F2
  fh : Same F2 H2
  hh : ∀ a o, ¬ Ow σ ρ a → H a = some o → H2 a = some o
  nj : ∀ a, ¬ Ow σ ρ a → F a = none → H a ≠ none → F2 a = none
  hn : ∀ a, H a ≠ none → H2 a ≠ none
  nd : NoD H → NoD H2
  sub : Sub ρ' ρ
theorem Go.refl {σ : L2.St} {ρ : Sts} {F H : Hp} (h : Same F H) : Go σ ρ ρ F H F H := ⟨Same.refl F, h, fun _ _ _ e => e, fun _ _ e _ => e, fun _ e => e, id, .refl ρ⟩
theorem Go.trans {σ : L2.St} {ρ ρ1 ρ2 : Sts} {F H F1 H1 F2 H2 : Hp} (a : Go σ ρ ρ1 F H F1 H1) (b : Go σ ρ1 ρ2 F1 H1 F2 H2) : Go σ ρ ρ2 F H F2 H2 :=
  ⟨a.ff.trans b.ff, b.fh, fun c o n e => b.hh c o (fun z => n (a.sub.ow z)) (a.hh c o n e), fun c n e1 e2 => b.nj c (fun z => n (a.sub.ow z)) (a.nj c n e1 e2) (a.hn c e2), fun c n => b.hn c (a.hn c n), fun n => b.nd (a.nd n), b.sub.trans a.sub⟩
theorem Go.of0 {σ : L2.St} {ρ : Sts} {F H F2 H2 : Hp} (s : Stp m0 F H F2 H2) : Go σ ρ ρ F H F2 H2 := ⟨s.ff, s.fh, fun a o _ e => s.hs a o e, fun a _ => s.nj a, s.hn, s.nd, .refl ρ⟩
section
variable {K : PySem.W.Frag} {w : World} {F0 H0 F H F1 H1 F2 H2 F3 H3 : Hp} {m : Addr → Prop} {σ : L2.St} {ρ ρ' ρ'' : Sts}
theorem Sg.live (S : Sg K w F0 H0 m F H σ ρ) {p : Addr} (o : Ow σ ρ p) : F p = none ∧ H p ≠ none := by
  obtain ⟨i, s, e, ms, r⟩ := o
  have e' := sts_at (w := w) e
  obtain ⟨q, e1, f⟩ := S.ref e' (by rw [to_mt]; exact ms)
  rw [r] at e1
  cases e1
  refine ⟨f, ?_⟩
  have k := S.ok i _ e'
  rw [r] at k
  cases s with
  | emp => cases ms
  | d x => cases ms
  | own b xs => obtain ⟨p', vs, h1, _, h3, _⟩ := k; cases h1; rw [h3]; exact fun z => nomatch z
  | iset ks => obtain ⟨p', h1, _, h3⟩ := k; cases h1; rw [h3]; exact fun z => nomatch z
  | nset ks => obtain ⟨p', h1, _, h3⟩ := k; cases h1; rw [h3]; exact fun z => nomatch z
/-- what a value is -/
def VOk (K : PySem.W.Frag) (σ : L2.St) (H F2 H2 : Hp) (u : V) : Vl → Prop
  | .d x => Dp K F2 u x
  | .al i => σ[i]? = some (some u)
  | .new xs => ∃ p vs, u = .ref p ∧ F2 p = none ∧ H p = none ∧ H2 p = some (.lst vs) ∧ DpAll K F2 vs xs
theorem VOk.up {u : V} {v : Vl} (h : VOk K σ H F1 H1 u v) (S : Sg K w F0 H0 m F H σ ρ) (g : Go σ ρ ρ' F H F1 H1) (g2 : Go σ ρ' ρ'' F1 H1 F2 H2) : VOk K σ H F2 H2 u v := by
  cases v with
  | d x => exact dp_up g2.ff _ _ h
  | al i => exact h
  | new xs =>
    obtain ⟨p, vs, rfl, f, n, e, a⟩ := h
    have no : ¬ Ow σ ρ' p := fun o => (S.live (g.sub.ow o)).2 n
    exact ⟨p, vs, rfl, g2.nj p no f (by rw [e]; exact fun z => nomatch z), n, g2.hh p _ no e, da_up g2.ff _ _ a⟩
theorem VOk.from {u : V} {v : Vl} (h : VOk K σ H1 F2 H2 u v) (k : ∀ a, H a ≠ none → H1 a ≠ none) : VOk K σ H F2 H2 u v := by
  cases v with
  | d x => exact h
  | al i => exact h
  | new xs =>
    obtain ⟨p, vs, rfl, f, n, e, a⟩ := h
    refine ⟨p, vs, rfl, f, ?_, e, a⟩
    cases q : H p with
    | none => rfl
    | some o => exact absurd n (k p (by rw [q]; exact fun z => nomatch z))
theorem VOk.any {u : V} {v : Vl} (h : VOk K [] H F2 H2 u v) : VOk K σ H F2 H2 u v := by
  cases v with
  | d x => exact h
  | al i => simp [VOk] at h
  | new xs => exact h
end
/-! ## judgements -/
abbrev Ev := Sts → Option (Vl × Sts)
abbrev Tv := Sts → Option (Bool × Sts)
abbrev Av := Sts → Option (List Vl × Sts)
def SE (K : PySem.W.Frag) (w : World) (te : TE) (e : Ev) : Prop := ∀ ρ v ρ', e ρ = some (v, ρ') → ∀ F0 H0 m F H σ, Sg K w F0 H0 m F H σ ρ → ∀ Q : VK,
  (∀ u F2 H2, Go σ ρ ρ' F H F2 H2 → Sg K w F0 H0 m F2 H2 σ ρ' → VOk K σ H F2 H2 u v → Q u H2) → te σ H Q
def ST (K : PySem.W.Frag) (w : World) (tt : TT) (t : Tv) : Prop := ∀ ρ b ρ', t ρ = some (b, ρ') → ∀ F0 H0 m F H σ, Sg K w F0 H0 m F H σ ρ → ∀ Q : Bool → Hp → Prop,
  (∀ F2 H2, Go σ ρ ρ' F H F2 H2 → Sg K w F0 H0 m F2 H2 σ ρ' → Q b H2) → tt σ H Q
inductive VAll (P : V → Vl → Prop) : List V → List Vl → Prop
  | nil : VAll P [] []
  | cons {u v us vs} : P u v → VAll P us vs → VAll P (u :: us) (v :: vs)
theorem VAll.imp {P P' : V → Vl → Prop} (h : ∀ u v, P u v → P' u v) : ∀ {us vs}, VAll P us vs → VAll P' us vs
  | _, _, .nil => .nil
  | _, _, .cons a b => .cons (h _ _ a) (b.imp h)
def SA (K : PySem.W.Frag) (w : World) (ta : TA) (a : Av) : Prop := ∀ ρ vs ρ', a ρ = some (vs, ρ') → ∀ F0 H0 m F H σ, Sg K w F0 H0 m F H σ ρ → ∀ Q : List V → Hp → Prop,
  (∀ us F2 H2, Go σ ρ ρ' F H F2 H2 → Sg K w F0 H0 m F2 H2 σ ρ' → VAll (VOk K σ H F2 H2) us vs → Q us H2) → ta σ H Q
section
variable {K : PySem.W.Frag} {w : World} {te ta tb : TE} {a b e : Ev} {tt : TT} {t : Tv} {tz : TA} {as : Av}
/-! ## names, constants -/
def eVar (i : Nat) : Ev := fun ρ => match ρ[i]? with
  | some (.d x) => some (.d x, ρ)
  | some (.own _ _) => some (.al i, ρ)
  | _ => none
theorem se_var {i : Nat} : SE K w (tVar i) (eVar i) := fun ρ v ρ' h F0 H0 m F H σ S Q q => by
  unfold eVar at h
  split at h
  · rename_i x e
    cases h
    obtain ⟨u, e1, r⟩ := S.var (sts_at (w := w) e)
    exact ⟨u, e1, q u F H (.refl S.fh) S r⟩
  · rename_i b xs e
    cases h
    obtain ⟨p, e1, f⟩ := S.ref (sts_at (w := w) e) rfl
    exact ⟨_, e1, q _ F H (.refl S.fh) S e1⟩
  · cases h
def eC (x : PD) : Ev := fun ρ => some (.d x, ρ)
theorem se_c {u : V} {x : PD} (h : ∀ H : Hp, Dp K H u x) : SE K w (tC u) (eC x) := fun ρ v ρ' e F0 H0 m F H σ S Q q => by
  cases e
  exact q u F H (.refl S.fh) S (h F)
theorem se_int {i : Int} : SE K w (tC (.int i)) (eC (.int i)) := se_c fun _ => .int i
theorem se_bl {i : Bool} : SE K w (tC (.bl i)) (eC (.bool i)) := se_c fun _ => .bl i
theorem se_non : SE K w (tC .non) (eC .none) := se_c fun _ => .non
theorem se_str {i : Str} : SE K w (tC (.str i)) (eC (.str i)) := se_c fun _ => .str i
/-! ## a new list that nobody will change is data -/
def stl : Vl → Vl
  | .new xs => .d (.list xs)
  | v => v
def eRd (e : Ev) : Ev := fun ρ => match e ρ with
  | some (v, ρ') => some (stl v, ρ')
  | none => none
/-- one more object is kept for ever: none of a slot's -/
theorem Sg.frz {F0 H0 F H : Hp} {m : Addr → Prop} {σ : L2.St} {ρ : Sts} {p : Addr} {o : HO} (S : Sg K w F0 H0 m F H σ ρ) (f : F p = none) (e : H p = some o) (n0 : H0 p = none) (no : ¬ Ow σ ρ p) : Sg K w F0 H0 m (upd F p o) H σ ρ := by
  have fh : Same (upd F p o) H := fun b u eb => by
    by_cases z : b = p
    · subst z; rw [upd_same] at eb; cases eb; exact e
    · rw [upd_ne z] at eb; exact S.fh b u eb
  have ff := same_new (o := o) f
  have ne : ∀ (i : Nat) (s : Sl) (q : Addr), ρ[i]? = some s → s.mt = true → (σ[i]?).join = some (.ref q) → q ≠ p := fun i s q e1 e2 e3 z => by
    subst z
    refine no ⟨i, s, e1, e2, ?_⟩
    cases e4 : σ[i]? with
    | none => rw [e4] at e3; cases e3
    | some o => rw [e4] at e3; exact congrArg some e3
  refine ⟨⟨S.st.ff.trans ff, fh, S.st.hh, fun a e1 n1 => ?_, S.st.hn, S.st.nd⟩, S.len, fun i z hz => ?_, S.dis, S.fr, S.n0⟩
  · rw [upd_ne (fun z => n1 (by rw [z]; exact n0))]
    exact S.st.nj a e1 n1
  · obtain ⟨s, e1, rfl⟩ := sts_of hz
    have k := S.ok i _ hz
    cases s with
    | emp => exact trivial
    | d x => obtain ⟨v, h1, h2⟩ := k; exact ⟨v, h1, dp_up ff _ _ h2⟩
    | own b xs => obtain ⟨q, vs, h1, h2, h3, h4⟩ := k; exact ⟨q, vs, h1, by rw [upd_ne (ne i _ q e1 rfl h1)]; exact h2, h3, da_up ff _ _ h4⟩
    | iset ks => obtain ⟨q, h1, h2, h3⟩ := k; exact ⟨q, h1, by rw [upd_ne (ne i _ q e1 rfl h1)]; exact h2, h3⟩
    | nset ks => obtain ⟨q, h1, h2, h3⟩ := k; exact ⟨q, h1, by rw [upd_ne (ne i _ q e1 rfl h1)]; exact h2, h3⟩
theorem Go.frz {F H F2 H2 : Hp} {σ : L2.St} {ρ ρ' : Sts} {p : Addr} {o : HO} (g : Go σ ρ ρ' F H F2 H2) (f : F2 p = none) (e : H2 p = some o) (n : H p = none) : Go σ ρ ρ' F H (upd F2 p o) H2 := by
  refine ⟨g.ff.trans (same_new f), fun b u eb => ?_, g.hh, fun a no e1 n1 => ?_, g.hn, g.nd, g.sub⟩
  · by_cases z : b = p
    · subst z; rw [upd_same] at eb; cases eb; exact e
    · rw [upd_ne z] at eb; exact g.fh b u eb
  · rw [upd_ne (fun z => n1 (by rw [z]; exact n))]
    exact g.nj a no e1 n1
theorem Sg.old {F0 H0 F H : Hp} {m : Addr → Prop} {σ : L2.St} {ρ : Sts} (S : Sg K w F0 H0 m F H σ ρ) {p : Addr} (n : H p = none) : H0 p = none := by
  cases q : H0 p with
  | none => rfl
  | some o => exact absurd n (S.st.hn p (by rw [q]; exact fun z => nomatch z))
/-- a value at rest -/
def VRd (v : Vl) : Prop := match v with | .new _ => False | _ => True
theorem stl_rd (v : Vl) : VRd (stl v) := by cases v <;> exact trivial
theorem stl_ok {F0 H0 F H F2 H2 : Hp} {m : Addr → Prop} {σ : L2.St} {ρ ρ' : Sts} {u : V} {v : Vl} (S : Sg K w F0 H0 m F H σ ρ) (g : Go σ ρ ρ' F H F2 H2) (S2 : Sg K w F0 H0 m F2 H2 σ ρ') (h : VOk K σ H F2 H2 u v) : ∃ F3, Go σ ρ ρ' F H F3 H2 ∧ Sg K w F0 H0 m F3 H2 σ ρ' ∧ Same F2 F3 ∧ VOk K σ H F3 H2 u (stl v) := by
  cases v with
  | d x => exact ⟨F2, g, S2, Same.refl F2, h⟩
  | al i => exact ⟨F2, g, S2, Same.refl F2, h⟩
  | new xs =>
    obtain ⟨p, vs, rfl, f, n, e, a⟩ := h
    have no : ¬ Ow σ ρ' p := fun o => (S.live (g.sub.ow o)).2 n
    exact ⟨upd F2 p (.lst vs), g.frz f e n, S2.frz f e (S.old n) no, same_new f, .lst (.inl (.inl upd_same)) (da_up (same_new f) _ _ a)⟩
theorem se_rd (h : SE K w te e) : SE K w te (eRd e) := fun ρ v ρ' he F0 H0 m F H σ S Q q => by
  unfold eRd at he
  cases e1 : e ρ with
  | none => rw [e1] at he; cases he
  | some r =>
    obtain ⟨v1, ρ1⟩ := r
    rw [e1] at he
    cases he
    refine h ρ v1 _ e1 _ _ _ _ _ _ S _ fun u F2 H2 g S2 o => ?_
    obtain ⟨F3, g3, S3, _, o3⟩ := stl_ok S g S2 o
    exact q u F3 H2 g3 S3 o3
theorem eRd_rest {ρ ρ' : Sts} {v : Vl} (h : eRd e ρ = some (v, ρ')) : VRd v := by
  unfold eRd at h
  split at h
  · cases h; exact stl_rd _
  · cases h
/-- what is seen of a value at rest -/
def look (ρ : Sts) : Vl → Option PD
  | .d x => some x
  | .al i => match ρ[i]? with
    | some (.d x) => some x
    | some (.own _ xs) => some (.list xs)
    | _ => none
  | .new _ => none
/-- data that may be read: all but a list's own place is kept -/
def Rdb (K : PySem.W.Frag) (F H : Hp) (u : V) (x : PD) : Prop := Dp K F u x ∨ ∃ p vs xs, u = .ref p ∧ x = .list xs ∧ H p = some (.lst vs) ∧ DpAll K F vs xs
theorem Rdb.dp {F H : Hp} {u : V} {x : PD} (h : Rdb K F H u x) (f : Same F H) : Dp K H u x := by
  rcases h with h | ⟨p, vs, xs, rfl, rfl, e, a⟩
  · exact dp_up f _ _ h
  · exact .lst (.inl (.inl e)) (da_up f _ _ a)
theorem look_ok {F0 H0 F H : Hp} {m : Addr → Prop} {σ : L2.St} {ρ : Sts} {u : V} {v : Vl} {x : PD} {Hs : Hp} (S : Sg K w F0 H0 m F H σ ρ) (h : VOk K σ Hs F H u v) (e : look ρ v = some x) : Rdb K F H u x := by
  cases v with
  | d y => cases e; exact .inl h
  | new xs => cases e
  | al i =>
    have h : σ[i]? = some (some u) := h
    cases hs : ρ[i]? with
    | none => simp [look, hs] at e
    | some s =>
      cases s with
      | emp => simp [look, hs] at e
      | iset ks => simp [look, hs] at e
      | nset ks => simp [look, hs] at e
      | d y =>
        simp only [look, hs] at e
        cases e
        obtain ⟨v', e1, r⟩ := S.var (sts_at (w := w) hs)
        rw [h] at e1
        cases e1
        exact .inl r
      | own b xs =>
        simp only [look, hs] at e
        cases e
        obtain ⟨p, vs, h1, h2, h3, h4⟩ := S.ok i _ (sts_at (w := w) hs)
        rw [h] at h1
        cases h1
        exact .inr ⟨p, vs, xs, rfl, rfl, h3, h4⟩
/-! ## operators -/
def OpS (K : PySem.W.Frag) (r : R2) (f : PD → PD → Option Vl) : Prop := ∀ F H u1 u2 x y z, Fz F H → Rdb K F H u1 x → Rdb K F H u2 y → f x y = some z → ∀ Q : VK, (∀ u F2 H2, Stp m0 F H F2 H2 → VOk K [] H F2 H2 u z → Q u H2) → r u1 u2 H Q
def eOp (f : PD → PD → Option Vl) (a b : Ev) : Ev := fun ρ => match eRd a ρ with
  | none => none
  | some (x, ρ1) => match eRd b ρ1 with
    | none => none
    | some (y, ρ2) => match look ρ2 x, look ρ2 y with
      | some x, some y => (f x y).map (·, ρ2)
      | _, _ => none
theorem Sg.fz2 {F0 H0 F H : Hp} {m : Addr → Prop} {σ : L2.St} {ρ : Sts} (S : Sg K w F0 H0 m F H σ ρ) : Fz F H := S.fz
theorem Sg.up0 {F0 H0 F H F2 H2 : Hp} {m : Addr → Prop} {σ : L2.St} {ρ : Sts} (S : Sg K w F0 H0 m F H σ ρ) (s : Stp m0 F H F2 H2) : Sg K w F0 H0 m F2 H2 σ ρ := Sig.up S s
theorem se_op {r : R2} {f : PD → PD → Option Vl} (hr : OpS K r f) (ha : SE K w ta a) (hb : SE K w tb b) : SE K w (tOp r ta tb) (eOp f a b) := fun ρ v ρ' he F0 H0 m F H σ S Q q => by
  unfold eOp at he
  cases e1 : eRd a ρ with
  | none => rw [e1] at he; cases he
  | some r1 =>
    obtain ⟨x, ρ1⟩ := r1
    rw [e1] at he
    dsimp only at he
    cases e2 : eRd b ρ1 with
    | none => rw [e2] at he; cases he
    | some r2 =>
      obtain ⟨y, ρ2⟩ := r2
      rw [e2] at he
      dsimp only at he
      split at he
      · rename_i x' y' lx ly
        cases e3 : f x' y' with
        | none => rw [e3] at he; cases he
        | some z =>
          rw [e3] at he
          cases he
          refine se_rd ha ρ x ρ1 e1 _ _ _ _ _ _ S _ fun u F2 H2 g S2 o => se_rd hb ρ1 y _ e2 _ _ _ _ _ _ S2 _ fun u2 F3 H3 g2 S3 o2 => ?_
          have o' := o.up S g g2
          refine hr F3 H3 u u2 x' y' _ S3.fz (look_ok S3 o' lx) (look_ok S3 o2 ly) e3 Q fun u4 F4 H4 st o4 => ?_
          have g4 := (g.trans g2).trans (.of0 st)
          exact q u4 F4 H4 g4 (S3.up0 st) (o4.any.from (g.trans g2).hn)
      · cases he
end
end MU

namespace MU
open PySem PySem.Spec L2
section
variable {K : PySem.W.Frag} {w : World} {F H : Hp} {u : V} {Q : VK}
theorem rdb_int {i : Int} (h : Rdb K F H u (.int i)) : u = .int i := by
  rcases h with h | ⟨_, _, _, _, h, _⟩
  · exact dp_int h
  · cases h
theorem rdb_bool {i : Bool} (h : Rdb K F H u (.bool i)) : u = .bl i := by
  rcases h with h | ⟨_, _, _, _, h, _⟩
  · exact dp_bool h
  · cases h
theorem rdb_str {i : Str} (h : Rdb K F H u (.str i)) : u = .str i := by
  rcases h with h | ⟨_, _, _, _, h, _⟩
  · cases h; rfl
  · cases h
theorem rdb_list {xs : List PD} (h : Rdb K F H u (.list xs)) (s : Same F H) : ∃ a vs, u = .ref a ∧ SqL K H a vs ∧ DpAll K F vs xs := by
  rcases h with h | ⟨p, vs, ys, rfl, e, hp, a⟩
  · obtain ⟨a, vs, rfl, h1, h2⟩ := dp_list h
    exact ⟨a, vs, rfl, s.seq h1, h2⟩
  · cases e
    exact ⟨p, vs, rfl, .inl (.inl hp), a⟩
theorem rdb_tuple {xs : List PD} (h : Rdb K F H u (.tuple xs)) (s : Same F H) : ∃ a vs, u = .ref a ∧ SqT K H a vs ∧ DpAll K F vs xs ∧ Dp K F u (.tuple xs) := by
  rcases h with h | ⟨p, vs, ys, rfl, e, hp, a⟩
  · obtain ⟨a, vs, rfl, h1, h2⟩ := dp_tuple h
    exact ⟨a, vs, rfl, sqt_up s h1, h2, h⟩
  · cases e
theorem rdb_seq {x : PD} {xs : List PD} (h : Rdb K F H u x) (s : Same F H) (e : seqOf x = some xs) : ∃ a vs, u = .ref a ∧ (SqL K H a vs ∨ SqT K H a vs) ∧ DpAll K F vs xs := by
  cases x with
  | list ys => cases e; obtain ⟨a, vs, h1, h2, h3⟩ := rdb_list h s; exact ⟨a, vs, h1, .inl h2, h3⟩
  | tuple ys => cases e; obtain ⟨a, vs, h1, h2, h3, _⟩ := rdb_tuple h s; exact ⟨a, vs, h1, .inr h2, h3⟩
  | _ => cases e
theorem mk_new {p : Addr} {vs : List V} {xs : List PD} (s : Same F H) (np : H p = none) (a : DpAll K F vs xs) (q : ∀ u F2 H2, Stp m0 F H F2 H2 → VOk K [] H F2 H2 u (.new xs) → Q u H2) : Q (.ref p) (upd H p (.lst vs)) :=
  q _ F _ (.mk1 s np) ⟨p, vs, rfl, s.free np, np, upd_same, a⟩
theorem mk_tup {p : Addr} {o : Obj} {vs : List V} {xs : List PD} (s : Same F H) (np : H p = none) (ho : o.dict = none) (a : DpAll K F vs xs) (q : ∀ u F2 H2, Stp m0 F H F2 H2 → VOk K [] H F2 H2 u (.d (.tuple xs)) → Q u H2) : Q (.ref p) (upd H p (.frz o (.tup vs))) :=
  q _ (upd F p (.frz o (.tup vs))) _ (.frz s np (ok_tup ho)) (Dp.tup (.inl (.inr ⟨o, upd_same⟩)) (da_up (same_new (s.free np)) _ _ a))
theorem mk_sc {z : V} {x : PD} (s : Same F H) (h : Dp K F z x) (q : ∀ u F2 H2, Stp m0 F H F2 H2 → VOk K [] H F2 H2 u (.d x) → Q u H2) : Q z H := q z F H (.refl s) h
/-! ## two rules at once -/
def rOr (r r2 : R2) : R2 := fun x y H Q => r x y H Q ∨ r2 x y H Q
theorem opr_or {X : Cx} {f : Value → Value → Sem Value} {r r2 : R2} (h : OpR X f r) (h2 : OpR X f r2) : OpR X f (rOr r r2) := by
  intro pins s σ H x y v u Q I a b z
  rcases z with z | z
  · exact h _ _ _ _ _ _ _ _ _ I a b z
  · exact h2 _ _ _ _ _ _ _ _ _ I a b z
theorem ixr_or {X : Cx} {r r2 : R2} (h : IxR X r) (h2 : IxR X r2) : IxR X (rOr r r2) := by
  intro value slice pins s σ H x y v u Q I a b z c
  rcases z with z | z
  · exact h _ _ _ _ _ _ _ _ _ _ _ I a b z c
  · exact h2 _ _ _ _ _ _ _ _ _ _ _ I a b z c
abbrev rAddS : R2 := fun x y H Q => ∃ i j, x = .str i ∧ y = .str j ∧ i.length + j.length ≤ sizeLine ∧ Q (.str (i ++ j)) H
def rAdd' (K : PySem.W.Frag) : R2 := rOr (rI0 fun i j => .int (i + j)) (rOr (rCatL K) (rOr (rCatN K) rAddS))
def fAdd : PD → PD → Option Vl
  | .int i, .int j => some (.d (.int (i + j)))
  | .list a, .list b => if a.length + b.length ≤ 100000 then some (.new (a ++ b)) else none
  | .tuple a, .tuple b => if a.length + b.length ≤ 100000 then some (.d (.tuple (a ++ b))) else none
  | .str a, .str b => if a.length + b.length ≤ sizeLine then some (.d (.str (a ++ b))) else none
  | _, _ => none
theorem op_add' {X : Cx} (e : X.K = K) : OpR X (binaryOp .Add) (rAdd' K) := by subst e; exact opr_or op_add (opr_or op_catL (opr_or op_catN op_add_str))
theorem ops_add : OpS K (rAdd' K) fAdd := fun F H u1 u2 x y z fz h1 h2 e Q q => by
  unfold fAdd at e
  split at e
  · cases e
    exact .inl ⟨_, _, rdb_int h1, rdb_int h2, mk_sc fz.s (.int _) q⟩
  · split at e
    · rename_i a b l
      cases e
      obtain ⟨p, vs, rfl, s1, d1⟩ := rdb_list h1 fz.s
      obtain ⟨p2, us, rfl, s2, d2⟩ := rdb_list h2 fz.s
      exact .inr (.inl ⟨p, p2, vs, us, rfl, rfl, s1, s2, by rw [da_len d1, da_len d2]; exact small_line l, fun p np => mk_new fz.s np (da_app d1 d2) q⟩)
    · cases e
  · split at e
    · rename_i a b l
      cases e
      obtain ⟨p, vs, rfl, s1, d1, k1⟩ := rdb_tuple h1 fz.s
      obtain ⟨p2, us, rfl, s2, d2, k2⟩ := rdb_tuple h2 fz.s
      refine .inr (.inr (.inl ⟨p, p2, vs, us, rfl, rfl, s1, s2, by rw [da_len d1, da_len d2]; exact small_line l, fun z => ?_, fun z z2 => ?_, fun z z2 p np o ho => mk_tup fz.s np ho (da_app d1 d2) q⟩))
      · subst z
        cases d1
        exact mk_sc fz.s k2 q
      · subst z2
        cases d2
        rw [List.append_nil] at q
        exact mk_sc fz.s k1 q
    · cases e
  · split at e
    · rename_i a b l
      cases e
      exact .inr (.inr (.inr ⟨a, b, rdb_str h1, rdb_str h2, l, mk_sc fz.s (.str _) q⟩))
    · cases e
  · cases e
def fSub : PD → PD → Option Vl
  | .int i, .int j => some (.d (.int (i - j)))
  | _, _ => none
theorem ops_sub : OpS K (rI0 fun i j => .int (i - j)) fSub := fun F H u1 u2 x y z fz h1 h2 e Q q => by
  unfold fSub at e
  split at e
  · cases e
    exact ⟨_, _, rdb_int h1, rdb_int h2, mk_sc fz.s (.int _) q⟩
  · cases e
/-- numbers of at most 4000 bits -/
def bits4 (i : Int) : Bool := decide (i.natAbs < 2 ^ 4000)
def fMul : PD → PD → Option Vl
  | .int i, .int j => if bits4 i && bits4 j then some (.d (.int (i * j))) else none
  | .tuple a, .int k => if a ≠ [] ∧ 1 ≤ k ∧ k ≤ 1000 ∧ a.length ≤ 1000 then some (.d (.tuple (List.replicate k.toNat a).flatten)) else none
  | _, _ => none
def rMul' (K : PySem.W.Frag) : R2 := rOr (rI CMulX fun i j => .int (i * j)) (rOr (rRepT1 K) rRep)
theorem op_mul' {X : Cx} (e : X.K = K) : OpR X (binaryOp .Mult) (rMul' K) := by subst e; exact opr_or op_mulX (opr_or op_repT1 op_rep)
theorem bits4_lt {i : Int} (h : bits4 i = true) : i.natAbs < 2 ^ 4000 := of_decide_eq_true h
theorem ops_mul : OpS K (rMul' K) fMul := fun F H u1 u2 x y z fz h1 h2 e Q q => by
  unfold fMul at e
  split at e
  · split at e
    · rename_i i j l
      cases e
      rw [Bool.and_eq_true] at l
      exact .inl ⟨_, _, rdb_int h1, rdb_int h2, mulx_ok (bits4_lt l.1) (bits4_lt l.2) (by decide), mk_sc fz.s (.int _) q⟩
    · cases e
  · split at e
    · rename_i a k l
      cases e
      obtain ⟨l0, l1, l2, l3⟩ := l
      obtain ⟨p, vs, rfl, s1, d1, k1⟩ := rdb_tuple h1 fz.s
      have lv := da_len d1
      refine .inr (.inl ⟨p, k, vs, rfl, rdb_int h2, s1, fun z => ?_, l1, l2, by omega, fun z => ?_, fun z p np o ho => mk_tup fz.s np ho ?_ q⟩)
      · subst z
        cases d1
        exact l0 rfl
      · subst z
        have e1 : (List.replicate (1 : Int).toNat a).flatten = a := by simp
        rw [e1] at q
        exact mk_sc fz.s k1 q
      · generalize k.toNat = n
        induction n with
        | zero => exact .nil
        | succ n ih => rw [List.replicate_succ, List.replicate_succ, List.flatten_cons, List.flatten_cons]; exact da_app d1 ih
    · cases e
  · cases e
def eMul (a b : Ev) : Ev := fun ρ => match a ρ with
  | none => none
  | some (x, ρ1) => match eRd b ρ1 with
    | none => none
    | some (y, ρ2) => match x, look ρ2 y with
      | .new xs, some (.int k) => if 0 ≤ k ∧ k ≤ 100000 ∧ xs.length * k.toNat ≤ 100000 then some (.new (List.replicate k.toNat xs).flatten, ρ2) else none
      | .d x, some y => (fMul x y).map (·, ρ2)
      | _, _ => none
theorem da_rep {vs : List V} {xs : List PD} (h : DpAll K F vs xs) : ∀ n : Nat, DpAll K F (List.replicate n vs).flatten (List.replicate n xs).flatten
  | 0 => .nil
  | n + 1 => by rw [List.replicate_succ, List.replicate_succ, List.flatten_cons, List.flatten_cons]; exact da_app h (da_rep h n)
theorem se_mul {ta tb : TE} {a b : Ev} (ha : SE K w ta a) (hb : SE K w tb b) : SE K w (tOp (rMul' K) ta tb) (eMul a b) := fun ρ v ρ' he F0 H0 m F H σ S Q q => by
  unfold eMul at he
  cases e1 : a ρ with
  | none => rw [e1] at he; cases he
  | some r1 =>
    obtain ⟨x, ρ1⟩ := r1
    rw [e1] at he
    dsimp only at he
    cases e2 : eRd b ρ1 with
    | none => rw [e2] at he; cases he
    | some r2 =>
      obtain ⟨y, ρ2⟩ := r2
      rw [e2] at he
      dsimp only at he
      refine ha ρ x ρ1 e1 _ _ _ _ _ _ S _ fun u F2 H2 g S2 o => se_rd hb ρ1 y _ e2 _ _ _ _ _ _ S2 _ fun u2 F3 H3 g2 S3 o2 => ?_
      have o' := o.up S g g2
      split at he
      · rename_i xs k ly
        split at he
        · rename_i l
          cases he
          obtain ⟨p, vs, rfl, f, n, e, aa⟩ := o'
          have lv := da_len aa
          refine .inr (.inr ⟨p, k, vs, rfl, rdb_int (look_ok S3 o2 ly), e, by omega, by omega, Nat.le_trans (show vs.length * k.toNat ≤ 100000 by rw [lv]; exact l.2.2) (by decide), fun p2 np => ?_⟩)
          refine mk_new S3.fh np (da_rep aa _) fun u4 F4 H4 st o4 => ?_
          exact q u4 F4 H4 ((g.trans g2).trans (.of0 st)) (S3.up0 st) (o4.any.from (g.trans g2).hn)
        · cases he
      · rename_i x y' ly
        cases e3 : fMul x y' with
        | none => rw [e3] at he; cases he
        | some z =>
          rw [e3] at he
          cases he
          refine ops_mul F3 H3 u u2 x y' _ S3.fz (.inl o') (look_ok S3 o2 ly) e3 Q fun u4 F4 H4 st o4 => ?_
          exact q u4 F4 H4 ((g.trans g2).trans (.of0 st)) (S3.up0 st) (o4.any.from (g.trans g2).hn)
      · cases he
def fDiv : PD → PD → Option Vl
  | .int i, .int j => if 0 < j ∧ bits4 j then some (.d (.int (i / j))) else none
  | _, _ => none
theorem ops_div : OpS K (rI CDivW fun i j => .int (i / j)) fDiv := fun F H u1 u2 x y z fz h1 h2 e Q q => by
  unfold fDiv at e
  split at e
  · split at e
    · rename_i l
      cases e
      exact ⟨_, _, rdb_int h1, rdb_int h2, wide_div (b := 4000) l.1 (bits4_lt l.2) (by decide) (by decide), mk_sc fz.s (.int _) q⟩
    · cases e
  · cases e
def fMod : PD → PD → Option Vl
  | .int i, .int j => if 0 < j then some (.d (.int (i % j))) else none
  | _, _ => none
theorem ops_mod : OpS K (rI (fun _ j => 0 < j) fun i j => .int (i % j)) fMod := fun F H u1 u2 x y z fz h1 h2 e Q q => by
  unfold fMod at e
  split at e
  · split at e
    · rename_i l
      cases e
      exact ⟨_, _, rdb_int h1, rdb_int h2, l, mk_sc fz.s (.int _) q⟩
    · cases e
  · cases e
/-- powers of at most 4000 bits each side, exponents at most 1000 -/
def fPow : PD → PD → Option Vl
  | .int i, .int j => if 0 ≤ j ∧ (Builtin.Int.intBits i : Int) * j ≤ 2 ^ 27 then some (.d (.int (i ^ j.toNat))) else none
  | _, _ => none
theorem ops_pow : OpS K (rI CPowW fun i j => .int (i ^ j.toNat)) fPow := fun F H u1 u2 x y z fz h1 h2 e Q q => by
  unfold fPow at e
  split at e
  · split at e
    · rename_i l
      cases e
      exact ⟨_, _, rdb_int h1, rdb_int h2, l, mk_sc fz.s (.int _) q⟩
    · cases e
  · cases e
/-! ## comparisons -/
def fI (g : Int → Int → Bool) : PD → PD → Option Vl
  | .int i, .int j => some (.d (.bool (g i j)))
  | _, _ => none
theorem ops_cmpI (g : Int → Int → Bool) : OpS K (rI0 fun i j => .bl (g i j)) (fI g) := fun F H u1 u2 x y z fz h1 h2 e Q q => by
  unfold fI at e
  split at e
  · cases e
    exact ⟨_, _, rdb_int h1, rdb_int h2, mk_sc fz.s (.bl _) q⟩
  · cases e
def fEq (x y : PD) : Option Vl := if SeqAt.shaped x = true ∧ SeqAt.shaped y = true then some (.d (.bool (PyData.eqv x y))) else none
def fNe (x y : PD) : Option Vl := if SeqAt.shaped x = true ∧ SeqAt.shaped y = true then some (.d (.bool (!PyData.eqv x y))) else none
theorem ops_eq : OpS K (rEqD K) fEq := fun F H u1 u2 x y z fz h1 h2 e Q q => by
  unfold fEq at e
  split at e
  · rename_i l
    cases e
    exact ⟨x, y, h1.dp fz.s, h2.dp fz.s, l.1, l.2, mk_sc fz.s (.bl _) q⟩
  · cases e
theorem ops_ne : OpS K (rNeD K) fNe := fun F H u1 u2 x y z fz h1 h2 e Q q => by
  unfold fNe at e
  split at e
  · rename_i l
    cases e
    exact ⟨x, y, h1.dp fz.s, h2.dp fz.s, l.1, l.2, mk_sc fz.s (.bl _) q⟩
  · cases e
def fIsN (x y : PD) : Option Vl := if isNon y then some (.d (.bool (isNon x))) else none
def fNotN (x y : PD) : Option Vl := if isNon y then some (.d (.bool (!isNon x))) else none
theorem isNon_eq {x : PD} (h : isNon x = true) : x = .none := by cases x <;> first | rfl | cases h
theorem ops_isN : OpS K rIsN' fIsN := fun F H u1 u2 x y z fz h1 h2 e Q q => by
  unfold fIsN at e
  split at e
  · rename_i l
    cases e
    rw [isNon_eq l] at h2
    refine ⟨dp_none (h2.dp fz.s), ?_⟩
    rw [isNon_v (h1.dp fz.s)]
    exact mk_sc fz.s (.bl _) q
  · cases e
theorem ops_notN : OpS K rNotN' fNotN := fun F H u1 u2 x y z fz h1 h2 e Q q => by
  unfold fNotN at e
  split at e
  · rename_i l
    cases e
    rw [isNon_eq l] at h2
    refine ⟨dp_none (h2.dp fz.s), ?_⟩
    rw [isNon_v (h1.dp fz.s)]
    exact mk_sc fz.s (.bl _) q
  · cases e
/-- x in xs, flat things -/
def fIn (neg : Bool) (x y : PD) : Option Vl := match seqOf y with
  | some ds => if flatD x && ds.all flatD then some (.d (.bool (if neg then !ds.any fun z => PyData.eqv z x else ds.any fun z => PyData.eqv z x))) else none
  | none => none
theorem ops_in {neg : Bool} : OpS K (rIn K neg) (fIn neg) := fun F H u1 u2 x y z fz h1 h2 e Q q => by
  unfold fIn at e
  split at e
  · rename_i ds hs
    split at e
    · rename_i l
      cases e
      rw [Bool.and_eq_true] at l
      obtain ⟨a, vs, rfl, sq, d⟩ := rdb_seq h2 fz.s hs
      have d' := da_up fz.s _ _ d
      refine ⟨a, vs, rfl, sq, by rw [flat_v (h1.dp fz.s)]; exact l.1, flats_v d' l.2, ?_⟩
      rw [in_v (h1.dp fz.s) l.1 d' l.2]
      exact mk_sc fz.s (.bl _) q
    · cases e
  · cases e
/-! ## items -/
def fIx (x y : PD) : Option Vl := match seqOf x, y with
  | some ds, .int i => (atI ds i).map .d
  | _, _ => none
theorem ops_ix : OpS K (rOr (rIxL K) (rIxT K)) fIx := fun F H u1 u2 x y z fz h1 h2 e Q q => by
  unfold fIx at e
  split at e
  · rename_i ds i hs
    obtain ⟨a, vs, rfl, sq, d⟩ := rdb_seq h1 fz.s hs
    cases e1 : atI ds i with
    | none => rw [e1] at e; cases e
    | some y =>
      rw [e1] at e
      cases e
      obtain ⟨v, g1, g2⟩ := at_da d e1
      rcases sq with sq | sq
      · exact .inl ⟨a, vs, i, v, rfl, rdb_int h2, sq, g1, mk_sc fz.s g2 q⟩
      · exact .inr ⟨a, vs, i, v, rfl, rdb_int h2, sq, g1, mk_sc fz.s g2 q⟩
  · cases e
theorem ixr_seq {X : Cx} (e : X.K = K) : IxR X (rOr (rIxL K) (rIxT K)) := by subst e; exact ixr_or ix_list ix_tup
end
end MU

namespace MU
open PySem PySem.Spec L2
section
variable {K : PySem.W.Frag} {w : World} {te ta tb tc : TE} {a b c e : Ev} {tt tu : TT} {t t2 : Tv} {tz : TA} {as : Av}
/-! ## one-place operators -/
def OpU (K : PySem.W.Frag) (r : V → Hp → VK → Prop) (f : PD → Option Vl) : Prop := ∀ F H u x z, Fz F H → Rdb K F H u x → f x = some z → ∀ Q : VK, (∀ u F2 H2, Stp m0 F H F2 H2 → VOk K [] H F2 H2 u z → Q u H2) → r u H Q
/-- the value at rest and what is seen of it -/
def eSee (e : Ev) (ρ : Sts) : Option (PD × Sts) := match eRd e ρ with
  | none => none
  | some (x, ρ1) => (look ρ1 x).map (·, ρ1)
theorem se_see (h : SE K w te e) {ρ ρ' : Sts} {x : PD} (he : eSee e ρ = some (x, ρ')) {F0 H0 F H : Hp} {m : Addr → Prop} {σ : L2.St} (S : Sg K w F0 H0 m F H σ ρ) {Q : VK}
    (q : ∀ u F2 H2, Go σ ρ ρ' F H F2 H2 → Sg K w F0 H0 m F2 H2 σ ρ' → Rdb K F2 H2 u x → Q u H2) : te σ H Q := by
  unfold eSee at he
  cases e1 : eRd e ρ with
  | none => rw [e1] at he; cases he
  | some r =>
    obtain ⟨v, ρ1⟩ := r
    rw [e1] at he
    dsimp only at he
    cases e2 : look ρ1 v with
    | none => rw [e2] at he; cases he
    | some y =>
      rw [e2] at he
      cases he
      exact se_rd h ρ v _ e1 _ _ _ _ _ _ S _ fun u F2 H2 g S2 o => q u F2 H2 g S2 (look_ok S2 o e2)
def eUn (f : PD → Option Vl) (a : Ev) : Ev := fun ρ => match eSee a ρ with
  | none => none
  | some (x, ρ1) => (f x).map (·, ρ1)
theorem se_un {r : V → Hp → VK → Prop} {f : PD → Option Vl} (hr : OpU K r f) (ha : SE K w ta a) : SE K w (tUn r ta) (eUn f a) := fun ρ v ρ' he F0 H0 m F H σ S Q q => by
  unfold eUn at he
  cases e1 : eSee a ρ with
  | none => rw [e1] at he; cases he
  | some r1 =>
    obtain ⟨x, ρ1⟩ := r1
    rw [e1] at he
    dsimp only at he
    cases e3 : f x with
    | none => rw [e3] at he; cases he
    | some z =>
      rw [e3] at he
      cases he
      exact se_see ha e1 S fun u F2 H2 g S2 o => hr F2 H2 u x _ S2.fz o e3 Q fun u4 F4 H4 st o4 => q u4 F4 H4 (g.trans (.of0 st)) (S2.up0 st) (o4.any.from g.hn)
def fNeg : PD → Option Vl
  | .int i => some (.d (.int (-i)))
  | _ => none
theorem opu_neg : OpU K (rU fun i => .int (-i)) fNeg := fun F H u x z fz h e Q q => by
  unfold fNeg at e
  split at e
  · cases e; exact ⟨_, rdb_int h, mk_sc fz.s (.int _) q⟩
  · cases e
/-! ## tests -/
def tvB (e : Ev) : Tv := fun ρ => match eSee e ρ with
  | some (.bool b, ρ1) => some (b, ρ1)
  | _ => none
theorem tvB_of {ρ ρ' : Sts} {b : Bool} (h : tvB e ρ = some (b, ρ')) : eSee e ρ = some (.bool b, ρ') := by
  unfold tvB at h
  split at h
  · rename_i e1; cases h; exact e1
  · cases h
theorem st_val (h : SE K w te e) : ST K w (tB te) (tvB e) := fun ρ b ρ' he F0 H0 m F H σ S Q q => se_see h (tvB_of he) S fun u F2 H2 g S2 o => ⟨b, rdb_bool o, q F2 H2 g S2⟩
theorem st_cmp (h : SE K w te e) : ST K w (tTest te) (tvB e) := fun ρ b ρ' he F0 H0 m F H σ S Q q => se_see h (tvB_of he) S fun u F2 H2 g S2 o => ⟨b, rdb_bool o, q F2 H2 g S2⟩
def tvNot (t : Tv) : Tv := fun ρ => (t ρ).map fun r => (!r.1, r.2)
theorem st_not (h : ST K w tt t) : ST K w (tNot tt) (tvNot t) := fun ρ b ρ' he F0 H0 m F H σ S Q q => by
  unfold tvNot at he
  cases e1 : t ρ with
  | none => rw [e1] at he; cases he
  | some r =>
    obtain ⟨b1, ρ1⟩ := r
    rw [e1] at he
    cases he
    exact h ρ b1 _ e1 _ _ _ _ _ _ S _ q
def tvAnd (t t2 : Tv) : Tv := fun ρ => match t ρ with
  | none => none
  | some (true, ρ1) => t2 ρ1
  | some (false, ρ1) => some (false, ρ1)
def tvOr (t t2 : Tv) : Tv := fun ρ => match t ρ with
  | none => none
  | some (false, ρ1) => t2 ρ1
  | some (true, ρ1) => some (true, ρ1)
theorem st_and (h : ST K w tt t) (h2 : ST K w tu t2) : ST K w (tAnd tt tu) (tvAnd t t2) := fun ρ b ρ' he F0 H0 m F H σ S Q q => by
  unfold tvAnd at he
  split at he
  · cases he
  · rename_i ρ1 e1
    exact h ρ true ρ1 e1 _ _ _ _ _ _ S _ fun F2 H2 g S2 => h2 ρ1 b ρ' he _ _ _ _ _ _ S2 _ fun F3 H3 g2 S3 => q F3 H3 (g.trans g2) S3
  · rename_i ρ1 e1
    cases he
    exact h ρ false _ e1 _ _ _ _ _ _ S _ fun F2 H2 g S2 => q F2 H2 g S2
theorem st_or (h : ST K w tt t) (h2 : ST K w tu t2) : ST K w (tOr tt tu) (tvOr t t2) := fun ρ b ρ' he F0 H0 m F H σ S Q q => by
  unfold tvOr at he
  split at he
  · cases he
  · rename_i ρ1 e1
    exact h ρ false ρ1 e1 _ _ _ _ _ _ S _ fun F2 H2 g S2 => h2 ρ1 b ρ' he _ _ _ _ _ _ S2 _ fun F3 H3 g2 S3 => q F3 H3 (g.trans g2) S3
  · rename_i ρ1 e1
    cases he
    exact h ρ true _ e1 _ _ _ _ _ _ S _ fun F2 H2 g S2 => q F2 H2 g S2
def tvYes : Tv := fun ρ => some (true, ρ)
theorem st_yes : ST K w tYes tvYes := fun ρ b ρ' he F0 H0 m F H σ S Q q => by cases he; exact q F H (.refl S.fh) S
/-- a and b, a or b, not a, of truth values -/
def eAnd (a b : Ev) : Ev := fun ρ => match eSee a ρ with
  | some (.bool true, ρ1) => eRd b ρ1
  | some (.bool false, ρ1) => some (.d (.bool false), ρ1)
  | _ => none
def eOr (a b : Ev) : Ev := fun ρ => match eSee a ρ with
  | some (.bool false, ρ1) => eRd b ρ1
  | some (.bool true, ρ1) => some (.d (.bool true), ρ1)
  | _ => none
def eNot (a : Ev) : Ev := fun ρ => match eSee a ρ with
  | some (.bool b, ρ1) => some (.d (.bool (!b)), ρ1)
  | _ => none
theorem VOk.fromG {F H F1 H1 F2 H2 : Hp} {σ : L2.St} {ρ ρ' : Sts} {u : V} {v : Vl} (h : VOk K σ H1 F2 H2 u v) (g : Go σ ρ ρ' F H F1 H1) : VOk K σ H F2 H2 u v := h.from g.hn
theorem se_and (ha : SE K w ta a) (hb : SE K w tb b) : SE K w (tAndV ta tb) (eAnd a b) := fun ρ v ρ' he F0 H0 m F H σ S Q q => by
  unfold eAnd at he
  split at he
  · rename_i ρ1 e1
    exact se_see ha e1 S fun u F2 H2 g S2 o => ⟨true, rdb_bool o, se_rd hb ρ1 v ρ' he _ _ _ _ _ _ S2 _ fun u3 F3 H3 g2 S3 o3 => q u3 F3 H3 (g.trans g2) S3 (o3.fromG g)⟩
  · rename_i ρ1 e1
    cases he
    exact se_see ha e1 S fun u F2 H2 g S2 o => ⟨false, rdb_bool o, q _ F2 H2 g S2 (.bl false)⟩
  · cases he
theorem se_or (ha : SE K w ta a) (hb : SE K w tb b) : SE K w (tOrV ta tb) (eOr a b) := fun ρ v ρ' he F0 H0 m F H σ S Q q => by
  unfold eOr at he
  split at he
  · rename_i ρ1 e1
    exact se_see ha e1 S fun u F2 H2 g S2 o => ⟨false, rdb_bool o, se_rd hb ρ1 v ρ' he _ _ _ _ _ _ S2 _ fun u3 F3 H3 g2 S3 o3 => q u3 F3 H3 (g.trans g2) S3 (o3.fromG g)⟩
  · rename_i ρ1 e1
    cases he
    exact se_see ha e1 S fun u F2 H2 g S2 o => ⟨true, rdb_bool o, q _ F2 H2 g S2 (.bl true)⟩
  · cases he
theorem se_not (ha : SE K w ta a) : SE K w (tNotV ta) (eNot a) := fun ρ v ρ' he F0 H0 m F H σ S Q q => by
  unfold eNot at he
  split at he
  · rename_i b ρ1 e1
    cases he
    exact se_see ha e1 S fun u F2 H2 g S2 o => ⟨b, rdb_bool o, q _ F2 H2 g S2 (.bl _)⟩
  · cases he
def eIf (t : Tv) (a b : Ev) : Ev := fun ρ => match t ρ with
  | none => none
  | some (true, ρ1) => a ρ1
  | some (false, ρ1) => b ρ1
theorem se_if (h : ST K w tt t) (ha : SE K w ta a) (hb : SE K w tb b) : SE K w (tIf tt ta tb) (eIf t a b) := fun ρ v ρ' he F0 H0 m F H σ S Q q => by
  unfold eIf at he
  split at he
  · cases he
  · rename_i ρ1 e1
    refine h ρ true ρ1 e1 _ _ _ _ _ _ S _ fun F2 H2 g S2 => ?_
    rw [if_pos rfl]
    exact ha ρ1 v ρ' he _ _ _ _ _ _ S2 _ fun u F3 H3 g2 S3 o => q u F3 H3 (g.trans g2) S3 (o.fromG g)
  · rename_i ρ1 e1
    refine h ρ false ρ1 e1 _ _ _ _ _ _ S _ fun F2 H2 g S2 => ?_
    rw [if_neg Bool.false_ne_true]
    exact hb ρ1 v ρ' he _ _ _ _ _ _ S2 _ fun u F3 H3 g2 S3 o => q u F3 H3 (g.trans g2) S3 (o.fromG g)
/-! ## a value that is kept: a list of one's own changes no more -/
theorem Sg.frzS {F0 H0 F H : Hp} {m : Addr → Prop} {σ : L2.St} {ρ : Sts} {i : Nat} {xs : List PD} (S : Sg K w F0 H0 m F H σ ρ) (hi : ρ[i]? = some (.own true xs)) :
    ∃ (F2 : Hp) (u : V), σ[i]? = some (some u) ∧ Dp K F2 u (.list xs) ∧ Go σ ρ (ρ.set i (.d (.list xs))) F H F2 H ∧ Sg K w F0 H0 m F2 H σ (ρ.set i (.d (.list xs))) := by
  have hi' := sts_at (w := w) hi
  obtain ⟨p, vs, e1, f, e, a⟩ := S.own hi'
  have n0 : H0 p = none := (S.fr i _ p hi' rfl e1).1 rfl
  have fh : Same (upd F p (.lst vs)) H := fun b u eb => by
    by_cases z : b = p
    · subst z; rw [upd_same] at eb; cases eb; exact e
    · rw [upd_ne z] at eb; exact S.fh b u eb
  have ff := same_new (o := HO.lst vs) f
  have li : i < ρ.length := (List.getElem?_eq_some_iff.mp hi).1
  have get : ∀ (j : Nat) (s : Sl), (ρ.set i (.d (.list xs)))[j]? = some s → (j = i ∧ s = .d (.list xs)) ∨ (j ≠ i ∧ ρ[j]? = some s) := fun j s h => by
    by_cases z : j = i
    · subst z
      rw [List.getElem?_set_self li] at h
      exact .inl ⟨rfl, (Option.some.inj h).symm⟩
    · rw [List.getElem?_set_ne (Ne.symm z)] at h
      exact .inr ⟨z, h⟩
  have sub : Sub (ρ.set i (.d (.list xs))) ρ := fun j s h ms => by
    rcases get j s h with ⟨_, rfl⟩ | ⟨_, h⟩
    · cases ms
    · exact ⟨s, h, ms, id⟩
  have dat : Dp K (upd F p (.lst vs)) (.ref p) (.list xs) := .lst (.inl (.inl upd_same)) (da_up ff _ _ a)
  refine ⟨upd F p (.lst vs), .ref p, e1, dat, ⟨ff, fh, fun _ _ _ e => e, fun b no f1 _ => ?_, fun _ n => n, id, sub⟩, ⟨⟨S.st.ff.trans ff, fh, S.st.hh, fun b e1 n1 => ?_, S.st.hn, S.st.nd⟩, ?_, fun j z hz => ?_, fun j k sj sk v jk ej ek mj mk => ?_, fun j z q ej mz eq => ?_, S.n0⟩⟩
  · rw [upd_ne (fun z => no (by subst z; exact ⟨i, _, hi, rfl, e1⟩))]
    exact f1
  · rw [upd_ne (fun z => n1 (by rw [z]; exact n0))]
    exact S.st.nj b e1 n1
  · rw [sts_len, List.length_set, ← sts_len w ρ]; exact S.len
  · obtain ⟨s, e2, rfl⟩ := sts_of hz
    rcases get j s e2 with ⟨rfl, rfl⟩ | ⟨ne, e2⟩
    · rw [e1]
      exact ⟨_, rfl, dat⟩
    · have e3 := sts_at (w := w) e2
      have k := S.ok j _ e3
      have away : ∀ q : Addr, s.mt = true → (σ[j]?).join = some (.ref q) → q ≠ p := fun q ms h z => by
        subst z
        exact S.dis j i _ _ _ ne e3 hi' (by rw [to_mt]; exact ms) rfl (opt_join h) e1
      cases s with
      | emp => exact trivial
      | d x => obtain ⟨v, h1, h2⟩ := k; exact ⟨v, h1, dp_up ff _ _ h2⟩
      | own b ys => obtain ⟨q, vs', h1, h2, h3, h4⟩ := k; exact ⟨q, vs', h1, by rw [upd_ne (away q rfl h1)]; exact h2, h3, da_up ff _ _ h4⟩
      | iset ks => obtain ⟨q, h1, h2, h3⟩ := k; exact ⟨q, h1, by rw [upd_ne (away q rfl h1)]; exact h2, h3⟩
      | nset ks => obtain ⟨q, h1, h2, h3⟩ := k; exact ⟨q, h1, by rw [upd_ne (away q rfl h1)]; exact h2, h3⟩
  · obtain ⟨s1, a1, rfl⟩ := sts_of ej
    obtain ⟨s2, a2, rfl⟩ := sts_of ek
    rcases get j s1 a1 with ⟨_, rfl⟩ | ⟨_, a1⟩
    · cases mj
    rcases get k s2 a2 with ⟨_, rfl⟩ | ⟨_, a2⟩
    · cases mk
    exact S.dis j k _ _ v jk (sts_at a1) (sts_at a2) mj mk
  · obtain ⟨s1, a1, rfl⟩ := sts_of ej
    rcases get j s1 a1 with ⟨_, rfl⟩ | ⟨_, a1⟩
    · cases mz
    exact S.fr j _ q (sts_at a1) mz eq
/-- the value as data: a list of one's own changes no more from here on -/
def eDat (e : Ev) : Ev := fun ρ => match eRd e ρ with
  | some (.d x, ρ1) => some (.d x, ρ1)
  | some (.al i, ρ1) => match ρ1[i]? with
    | some (.d x) => some (.d x, ρ1)
    | some (.own true xs) => some (.d (.list xs), ρ1.set i (.d (.list xs)))
    | _ => none
  | _ => none
theorem se_dat (h : SE K w te e) : SE K w te (eDat e) := fun ρ v ρ' he F0 H0 m F H σ S Q q => by
  unfold eDat at he
  split at he
  · rename_i x ρ1 e1
    cases he
    exact se_rd h ρ _ _ e1 _ _ _ _ _ _ S _ q
  · rename_i i ρ1 e1
    split at he
    · rename_i x hi
      cases he
      refine se_rd h ρ _ _ e1 _ _ _ _ _ _ S _ fun u F2 H2 g S2 o => q u F2 H2 g S2 ?_
      obtain ⟨v', e2, r⟩ := S2.var (sts_at (w := w) (s := .d x) hi)
      have o : σ[i]? = some (some u) := o
      rw [o] at e2
      cases e2
      exact r
    · rename_i xs hi
      cases he
      refine se_rd h ρ _ _ e1 _ _ _ _ _ _ S _ fun u F2 H2 g S2 o => ?_
      obtain ⟨F3, u', e2, dp, g3, S3⟩ := S2.frzS hi
      have o : σ[i]? = some (some u) := o
      rw [o] at e2
      cases e2
      exact q u F3 H2 (g.trans g3) S3 dp
    · cases he
  · cases he
theorem eDat_is {ρ ρ' : Sts} {v : Vl} (h : eDat e ρ = some (v, ρ')) : ∃ x, v = .d x := by
  unfold eDat at h
  split at h
  · cases h; exact ⟨_, rfl⟩
  · split at h
    · cases h; exact ⟨_, rfl⟩
    · cases h; exact ⟨_, rfl⟩
    · cases h
  · cases h
/-! ## arguments -/
def aNil : Av := fun ρ => some ([], ρ)
def aCons (e : Ev) (as : Av) : Av := fun ρ => match e ρ with
  | none => none
  | some (v, ρ1) => (as ρ1).map fun r => (v :: r.1, r.2)
theorem sa_nil : SA K w tNil aNil := fun ρ vs ρ' he F0 H0 m F H σ S Q q => by cases he; exact q [] F H (.refl S.fh) S .nil
theorem sa_cons (h : SE K w te e) (hs : SA K w tz as) : SA K w (tCons te tz) (aCons e as) := fun ρ vs ρ' he F0 H0 m F H σ S Q q => by
  unfold aCons at he
  split at he
  · cases he
  · rename_i v ρ1 e1
    cases e2 : as ρ1 with
    | none => rw [e2] at he; cases he
    | some r =>
      obtain ⟨us, ρ2⟩ := r
      rw [e2] at he
      cases he
      refine h ρ v ρ1 e1 _ _ _ _ _ _ S _ fun u F2 H2 g S2 o => hs ρ1 us _ e2 _ _ _ _ _ _ S2 _ fun vs F3 H3 g2 S3 o2 => ?_
      exact q (u :: vs) F3 H3 (g.trans g2) S3 (.cons (o.up S g g2) (o2.imp fun _ _ z => z.fromG g))
/-- all of them data -/
def allD : List Vl → Option (List PD)
  | [] => some []
  | .d x :: vs => (allD vs).map (x :: ·)
  | _ :: _ => none
theorem allD_ok {σ : L2.St} {H F2 H2 : Hp} : ∀ {us : List V} {vs : List Vl} {xs : List PD}, VAll (VOk K σ H F2 H2) us vs → allD vs = some xs → DpAll K F2 us xs
  | _, _, _, .nil, e => by cases e; exact .nil
  | _, .d x :: vs, _, .cons a t, e => by
    unfold allD at e
    cases e1 : allD vs with
    | none => rw [e1] at e; cases e
    | some ys => rw [e1] at e; cases e; exact .cons a (allD_ok t e1)
  | _, .al _ :: _, _, .cons _ _, e => by cases e
  | _, .new _ :: _, _, .cons _ _, e => by cases e
def aDs (as : Av) (ρ : Sts) : Option (List PD × Sts) := match as ρ with
  | none => none
  | some (vs, ρ1) => (allD vs).map (·, ρ1)
theorem sa_ds (h : SA K w tz as) {ρ ρ' : Sts} {ds : List PD} (he : aDs as ρ = some (ds, ρ')) {F0 H0 F H : Hp} {m : Addr → Prop} {σ : L2.St} (S : Sg K w F0 H0 m F H σ ρ) {Q : List V → Hp → Prop}
    (q : ∀ us F2 H2, Go σ ρ ρ' F H F2 H2 → Sg K w F0 H0 m F2 H2 σ ρ' → DpAll K F2 us ds → Q us H2) : tz σ H Q := by
  unfold aDs at he
  split at he
  · cases he
  · rename_i vs ρ1 e1
    cases e2 : allD vs with
    | none => rw [e2] at he; cases he
    | some ys =>
      rw [e2] at he
      cases he
      exact h ρ vs _ e1 _ _ _ _ _ _ S _ fun us F2 H2 g S2 o => q us F2 H2 g S2 (allD_ok o e2)
/-! ## displays: the items as data -/
def eTup (as : Av) : Ev := fun ρ => match aDs as ρ with
  | some (ds, ρ1) => if ds.length ≤ 100000 then some (.d (.tuple ds), ρ1) else none
  | none => none
def eLst (as : Av) : Ev := fun ρ => match aDs as ρ with
  | some (ds, ρ1) => if ds.length ≤ 100000 then some (.new ds, ρ1) else none
  | none => none
theorem se_tup (h : SA K w tz as) : SE K w (tTupN tz) (eTup as) := fun ρ v ρ' he F0 H0 m F H σ S Q q => by
  unfold eTup at he
  split at he
  · rename_i ds ρ1 e1
    split at he
    · rename_i l
      cases he
      refine sa_ds h e1 S fun us F2 H2 g S2 d => ⟨by rw [da_len d]; exact small_line l, fun p hp o ho => mk_tup S2.fh hp ho d fun u F3 H3 st o3 => ?_⟩
      exact q u F3 H3 (g.trans (.of0 st)) (S2.up0 st) (o3.any.fromG g)
    · cases he
  · cases he
theorem se_lst (h : SA K w tz as) : SE K w (tLst tz) (eLst as) := fun ρ v ρ' he F0 H0 m F H σ S Q q => by
  unfold eLst at he
  split at he
  · rename_i ds ρ1 e1
    split at he
    · rename_i l
      cases he
      refine sa_ds h e1 S fun us F2 H2 g S2 d => ⟨by rw [da_len d]; exact small_line l, fun p hp => mk_new S2.fh hp d fun u F3 H3 st o3 => ?_⟩
      exact q u F3 H3 (g.trans (.of0 st)) (S2.up0 st) (o3.any.fromG g)
    · cases he
  · cases he
/-! ## built-ins -/
inductive RdAll (P : V → PD → Prop) : List V → List PD → Prop
  | nil : RdAll P [] []
  | cons {u v us vs} : P u v → RdAll P us vs → RdAll P (u :: us) (v :: vs)
def lookAll (ρ : Sts) : List Vl → Option (List PD)
  | [] => some []
  | v :: vs => match look ρ v, lookAll ρ vs with
    | some x, some xs => some (x :: xs)
    | _, _ => none
theorem lookAll_ok {F0 H0 F H Hs : Hp} {m : Addr → Prop} {σ : L2.St} {ρ : Sts} (S : Sg K w F0 H0 m F H σ ρ) : ∀ {us : List V} {vs : List Vl} {xs : List PD}, VAll (VOk K σ Hs F H) us vs → lookAll ρ vs = some xs → RdAll (Rdb K F H) us xs
  | _, _, _, .nil, e => by cases e; exact .nil
  | _, v :: vs, _, .cons a t, e => by
    unfold lookAll at e
    split at e
    · rename_i x ys e1 e2
      cases e
      exact .cons (look_ok S a e1) (lookAll_ok S t e2)
    · cases e
def CbS (K : PySem.W.Frag) (r : List V → Hp → VK → Prop) (f : List PD → Option Vl) : Prop := ∀ F H us ds z, Fz F H → RdAll (Rdb K F H) us ds → f ds = some z → ∀ Q : VK, (∀ u F2 H2, Stp m0 F H F2 H2 → VOk K [] H F2 H2 u z → Q u H2) → r us H Q
def eCb (f : List PD → Option Vl) (as : Av) : Ev := fun ρ => match as ρ with
  | none => none
  | some (vs, ρ1) => match lookAll ρ1 vs with
    | none => none
    | some ds => (f ds).map (·, ρ1)
theorem se_cb {r : List V → Hp → VK → Prop} {f : List PD → Option Vl} (hr : CbS K r f) (h : SA K w tz as) : SE K w (tCB r tz) (eCb f as) := fun ρ v ρ' he F0 H0 m F H σ S Q q => by
  unfold eCb at he
  split at he
  · cases he
  · rename_i vs ρ1 e1
    split at he
    · cases he
    · rename_i ds e2
      cases e3 : f ds with
      | none => rw [e3] at he; cases he
      | some z =>
        rw [e3] at he
        cases he
        exact h ρ vs _ e1 _ _ _ _ _ _ S _ fun us F2 H2 g S2 o => hr F2 H2 us ds _ S2.fz (lookAll_ok S2 o e2) e3 Q fun u4 F4 H4 st o4 => q u4 F4 H4 (g.trans (.of0 st)) (S2.up0 st) (o4.any.fromG g)
end
end MU

namespace MU
open PySem PySem.Spec L2
/-! ## sorting -/
def insI (a : Int) : List Int → List Int
  | [] => [a]
  | b :: l => if a ≤ b then a :: b :: l else b :: insI a l
def sortI : List Int → List Int
  | [] => []
  | a :: l => insI a (sortI l)
theorem insI_perm (a : Int) : ∀ l, (insI a l).Perm (a :: l)
  | [] => .refl _
  | b :: l => by
    unfold insI
    split
    · exact .refl _
    · exact ((insI_perm a l).cons b).trans (.swap a b l)
theorem sortI_perm : ∀ l, (sortI l).Perm l
  | [] => .refl _
  | a :: l => (insI_perm a _).trans ((sortI_perm l).cons a)
theorem insI_sorted (a : Int) : ∀ l : List Int, l.Pairwise (· ≤ ·) → (insI a l).Pairwise (· ≤ ·)
  | [], _ => List.pairwise_singleton _ _
  | b :: l, h => by
    unfold insI
    have hb := List.pairwise_cons.mp h
    split
    · rename_i c
      refine List.pairwise_cons.mpr ⟨fun x hx => ?_, h⟩
      rcases List.mem_cons.mp hx with rfl | hx
      · exact c
      · exact Int.le_trans c (hb.1 x hx)
    · rename_i c
      refine List.pairwise_cons.mpr ⟨fun x hx => ?_, insI_sorted a l hb.2⟩
      rcases List.mem_cons.mp ((insI_perm a l).mem_iff.mp hx) with rfl | hx
      · omega
      · exact hb.1 x hx
theorem sortI_sorted : ∀ l : List Int, (sortI l).Pairwise (· ≤ ·)
  | [] => .nil
  | a :: l => insI_sorted a _ (sortI_sorted l)
theorem sortI_uniq {l l' : List Int} (hp : l'.Perm l) (hs : l'.Pairwise (· ≤ ·)) : l' = sortI l :=
  List.Perm.eq_of_pairwise (le := (· ≤ ·)) (fun _ _ _ _ h h' => Int.le_antisymm h h') hs (sortI_sorted l) (hp.trans (sortI_perm l).symm)
/-- all of them ints -/
def intsOf : List PD → Option (List Int)
  | [] => some []
  | .int i :: ds => (intsOf ds).map (i :: ·)
  | _ :: _ => none
theorem intsOf_eq : ∀ {ds : List PD} {ns : List Int}, intsOf ds = some ns → ds = ns.map .int
  | [], _, e => by cases e; rfl
  | .int i :: ds, _, e => by
    unfold intsOf at e
    cases e1 : intsOf ds with
    | none => rw [e1] at e; cases e
    | some ms => rw [e1] at e; cases e; rw [intsOf_eq e1]; rfl
  | .none :: _, _, e => by cases e
  | .bool _ :: _, _, e => by cases e
  | .str _ :: _, _, e => by cases e
  | .list _ :: _, _, e => by cases e
  | .tuple _ :: _, _, e => by cases e
  | .dict _ :: _, _, e => by cases e
theorem intsOf_map : ∀ ns : List Int, intsOf (ns.map .int) = some ns
  | [] => rfl
  | n :: ns => by
    show (intsOf (ns.map PyData.int)).map (n :: ·) = _
    rw [intsOf_map ns]
    rfl
section
variable {K : PySem.W.Frag} {w : World} {F H : Hp}
theorem rd1 {us : List V} {x : PD} (h : RdAll (Rdb K F H) us [x]) : ∃ u, us = [u] ∧ Rdb K F H u x := by
  cases h with
  | cons a t => cases t; exact ⟨_, rfl, a⟩
theorem rd2 {us : List V} {x y : PD} (h : RdAll (Rdb K F H) us [x, y]) : ∃ u v, us = [u, v] ∧ Rdb K F H u x ∧ Rdb K F H v y := by
  cases h with
  | cons a t => obtain ⟨v, rfl, b⟩ := rd1 t; exact ⟨_, v, rfl, a, b⟩
theorem da_sc1 {vs : List V} {ns : List Int} (h : DpAll K F vs (ns.map .int)) : vs = ns.map V.int := ints_da h
/-! ## built-ins -/
def fLen : List PD → Option Vl
  | [x] => (seqOf x).map fun ds => .d (.int ds.length)
  | _ => none
theorem cb_len : CbS K (rLen K) fLen := fun F H us ds z fz h e Q q => by
  unfold fLen at e
  split at e
  · obtain ⟨u, rfl, o⟩ := rd1 h
    rename_i x
    cases e1 : seqOf x with
    | none => rw [e1] at e; cases e
    | some ys =>
      rw [e1] at e
      cases e
      obtain ⟨a, vs, rfl, sq, d⟩ := rdb_seq o fz.s e1
      refine ⟨a, vs, rfl, sq, ?_⟩
      rw [da_len d]
      exact mk_sc fz.s (.int _) q
  · cases e
def fInt : List PD → Option Vl
  | [.int i] => some (.d (.int i))
  | [.bool b] => some (.d (.int (if b then 1 else 0)))
  | _ => none
theorem cb_int : CbS K rInt1 fInt := fun F H us ds z fz h e Q q => by
  unfold fInt at e
  split at e
  · cases e
    obtain ⟨u, rfl, o⟩ := rd1 h
    exact .inl ⟨_, by rw [rdb_int o], mk_sc fz.s (.int _) q⟩
  · cases e
    obtain ⟨u, rfl, o⟩ := rd1 h
    exact .inr ⟨_, by rw [rdb_bool o], mk_sc fz.s (.int _) q⟩
  · cases e
def fMax2 : List PD → Option Vl
  | [.int i, .int j] => some (.d (.int (max i j)))
  | _ => none
def fMin2 : List PD → Option Vl
  | [.int i, .int j] => some (.d (.int (min i j)))
  | _ => none
theorem cb_max2 : CbS K rMax2 fMax2 := fun F H us ds z fz h e Q q => by
  unfold fMax2 at e
  split at e
  · rename_i i j
    cases e
    obtain ⟨u, v, rfl, o, o2⟩ := rd2 h
    refine ⟨i, j, by rw [rdb_int o, rdb_int o2], ?_⟩
    rw [show (if j > i then j else i) = max i j by split <;> omega]
    exact mk_sc fz.s (.int _) q
  · cases e
theorem cb_min2 : CbS K rMin2 fMin2 := fun F H us ds z fz h e Q q => by
  unfold fMin2 at e
  split at e
  · rename_i i j
    cases e
    obtain ⟨u, v, rfl, o, o2⟩ := rd2 h
    refine ⟨i, j, by rw [rdb_int o, rdb_int o2], ?_⟩
    rw [show (if j < i then j else i) = min i j by split <;> omega]
    exact mk_sc fz.s (.int _) q
  · cases e
def fList : List PD → Option Vl
  | [x] => (seqOf x).map .new
  | _ => none
theorem cb_list : CbS K (rLstOf K) fList := fun F H us ds z fz h e Q q => by
  unfold fList at e
  split at e
  · rename_i x
    obtain ⟨u, rfl, o⟩ := rd1 h
    cases e1 : seqOf x with
    | none => rw [e1] at e; cases e
    | some ys =>
      rw [e1] at e
      cases e
      obtain ⟨a, vs, rfl, sq, d⟩ := rdb_seq o fz.s e1
      exact ⟨a, vs, rfl, sq, fun p np => mk_new fz.s np d q⟩
  · cases e
def fTuple : List PD → Option Vl
  | [.list ds] => some (.d (.tuple ds))
  | [.tuple ds] => some (.d (.tuple ds))
  | _ => none
theorem cb_tuple : CbS K (rTupOfN K) fTuple := fun F H us ds z fz h e Q q => by
  unfold fTuple at e
  split at e
  · cases e
    obtain ⟨u, rfl, o⟩ := rd1 h
    obtain ⟨a, vs, rfl, sq, d⟩ := rdb_list o fz.s
    exact ⟨a, vs, rfl, .inl ⟨sq, fun p np o ho => mk_tup fz.s np ho d q⟩⟩
  · cases e
    obtain ⟨u, rfl, o⟩ := rd1 h
    obtain ⟨a, vs, rfl, sq, d, k⟩ := rdb_tuple o fz.s
    exact ⟨a, vs, rfl, .inr ⟨sq, mk_sc fz.s k q⟩⟩
  · cases e
def fSorted : List PD → Option Vl
  | [.list ds] => (intsOf ds).map fun ns => .new ((sortI ns).map .int)
  | _ => none
theorem cb_sorted : CbS K (rSortedI K) fSorted := fun F H us ds z fz h e Q q => by
  unfold fSorted at e
  split at e
  · rename_i xs
    obtain ⟨u, rfl, o⟩ := rd1 h
    cases e1 : intsOf xs with
    | none => rw [e1] at e; cases e
    | some ns =>
      rw [e1] at e
      cases e
      rw [intsOf_eq e1] at o
      obtain ⟨a, vs, rfl, sq, d⟩ := rdb_list o fz.s
      rw [ints_da d] at sq
      exact ⟨a, ns, rfl, sq, fun ns' p h1 h2 np => by rw [sortI_uniq h1 h2]; exact mk_new fz.s np (da_ints _) q⟩
  · cases e
def fSum : List PD → Option Vl
  | [.list ds] => (intsOf ds).map fun ns => .d (.int ns.sum)
  | _ => none
theorem cb_sum : CbS K (rSum K) fSum := fun F H us ds z fz h e Q q => by
  unfold fSum at e
  split at e
  · rename_i xs
    obtain ⟨u, rfl, o⟩ := rd1 h
    cases e1 : intsOf xs with
    | none => rw [e1] at e; cases e
    | some ns =>
      rw [e1] at e
      cases e
      rw [intsOf_eq e1] at o
      obtain ⟨a, vs, rfl, sq, d⟩ := rdb_list o fz.s
      rw [ints_da d] at sq
      exact ⟨a, ns, rfl, sq, mk_sc fz.s (.int _) q⟩
  · cases e
def fStr : List PD → Option Vl
  | [.int i] => if i.natAbs < 2 ^ 1900 then some (.d (.str (toString i))) else none
  | _ => none
theorem cb_str : CbS K rStrI fStr := fun F H us ds z fz h e Q q => by
  unfold fStr at e
  split at e
  · rename_i i
    split at e
    · rename_i l
      cases e
      obtain ⟨u, rfl, o⟩ := rd1 h
      exact ⟨i, by rw [rdb_int o], Nat.lt_of_lt_of_le (PySem.Flt.log2_lt_of (k := 1900) (by decide) l) (by decide), mk_sc fz.s (.str _) q⟩
    · cases e
  · cases e
def fRepr : List PD → Option Vl
  | [d] => if d.showable = true ∧ d.hasDict = false ∧ d.depth ≤ 60 ∧ d.shown.length ≤ sizeLine then some (.d (.str d.shown)) else none
  | _ => none
theorem cb_repr : CbS K (rRepr K) fRepr := fun F H us ds z fz h e Q q => by
  unfold fRepr at e
  split at e
  · rename_i d
    split at e
    · rename_i l
      cases e
      obtain ⟨u, rfl, o⟩ := rd1 h
      exact ⟨u, d, rfl, o.dp fz.s, l.1, l.2.1, l.2.2.1, l.2.2.2, mk_sc fz.s (.str _) q⟩
    · cases e
  · cases e
variable {te ta tb : TE} {a b e : Ev}
/-- isinstance(x, T) -/
def fIsi (T : String) (x : PD) : Option Bool := if T = "int" then some (isIntD x) else if T = "bool" then some (isBoolD x) else if T = "tuple" then some (isTupD x) else if T = "list" then some (isLstD x) else none
theorem fIsi_kit {T : String} {x : PD} {b : Bool} (h : fIsi T x = some b) : kitB (tyD x) T = some b := by
  unfold fIsi at h
  repeat' split at h
  · rename_i c; subst c; rw [← h]; exact kit_int
  · rename_i c; subst c; rw [← h]; exact kit_bool
  · rename_i c; subst c; rw [← h]; exact kit_tup
  · rename_i c; subst c; rw [← h]; exact kit_lst
  · cases h
def eIsi (T : String) (a : Ev) : Ev := fun ρ => match eSee a ρ with
  | none => none
  | some (x, ρ1) => (fIsi T x).map fun b => (.d (.bool b), ρ1)
theorem se_isi {T : String} (ha : SE K w ta a) : SE K w (tCB (rIsi K) (tCons ta (tCons (tC (.ty T)) tNil))) (eIsi T a) := fun ρ v ρ' he F0 H0 m F H σ S Q q => by
  unfold eIsi at he
  split at he
  · cases he
  · rename_i x ρ1 e1
    cases e2 : fIsi T x with
    | none => rw [e2] at he; cases he
    | some b =>
      rw [e2] at he
      cases he
      exact se_see ha e1 S fun u F2 H2 g S2 o => ⟨u, .ty T, .type (tyD x), .type T, b, rfl, .ty T, tyx_of (o.dp S2.fh), kit_ty (fIsi_kit e2), q _ F2 H2 g S2 (.bl b)⟩
/-- n.bit_length() -/
def eBits (a : Ev) : Ev := fun ρ => match eSee a ρ with
  | some (.int i, ρ1) => some (.d (.int (Builtin.Int.intBits i : Nat)), ρ1)
  | _ => none
theorem se_bits (ha : SE K w ta a) : SE K w (tBits ta) (eBits a) := fun ρ v ρ' he F0 H0 m F H σ S Q q => by
  unfold eBits at he
  split at he
  · rename_i i ρ1 e1
    cases he
    exact se_see ha e1 S fun u F2 H2 g S2 o => ⟨i, rdb_int o, q _ F2 H2 g S2 (.int _)⟩
  · cases he
/-- a < b < c, ints -/
def eChain (g g' : Int → Int → Bool) (a b c : Ev) : Ev := fun ρ => match eSee a ρ with
  | some (.int i, ρ1) => match eSee b ρ1 with
    | some (.int j, ρ2) => if g i j then (match eSee c ρ2 with
        | some (.int k, ρ3) => some (.d (.bool (g' j k)), ρ3)
        | _ => none) else some (.d (.bool false), ρ2)
    | _ => none
  | _ => none
theorem se_chain {tc : TE} {c : Ev} {g g' : Int → Int → Bool} (ha : SE K w ta a) (hb : SE K w tb b) (hc : SE K w tc c) : SE K w (tChain (rI0 fun i j => .bl (g i j)) (rI0 fun i j => .bl (g' i j)) ta tb tc) (eChain g g' a b c) := fun ρ v ρ' he F0 H0 m F H σ S Q q => by
  unfold eChain at he
  split at he
  · rename_i i ρ1 e1
    split at he
    · rename_i j ρ2 e2
      split at he
      · rename_i l
        split at he
        · rename_i k ρ3 e3
          cases he
          refine se_see ha e1 S fun u F2 H2 g1 S2 o => se_see hb e2 S2 fun u2 F3 H3 g2 S3 o2 => ⟨i, j, rdb_int o, rdb_int o2, g i j, rfl, ?_⟩
          rw [if_pos l]
          exact se_see hc e3 S3 fun u3 F4 H4 g3 S4 o3 => ⟨j, k, rdb_int o2, rdb_int o3, q _ F4 H4 ((g1.trans g2).trans g3) S4 (.bl _)⟩
        · cases he
      · rename_i l
        cases he
        refine se_see ha e1 S fun u F2 H2 g1 S2 o => se_see hb e2 S2 fun u2 F3 H3 g2 S3 o2 => ⟨i, j, rdb_int o, rdb_int o2, g i j, rfl, ?_⟩
        rw [if_neg l]
        exact q _ F3 H3 (g1.trans g2) S3 (.bl _)
    · cases he
  · cases he
/-! ## slices -/
abbrev Ov := Sts → Option (Option Int × Sts)
def SO (K : PySem.W.Frag) (w : World) (to : TO) (o : Ov) : Prop := ∀ ρ i ρ', o ρ = some (i, ρ') → ∀ F0 H0 m F H σ, Sg K w F0 H0 m F H σ ρ → ∀ Q : Option Int → Hp → Prop,
  (∀ F2 H2, Go σ ρ ρ' F H F2 H2 → Sg K w F0 H0 m F2 H2 σ ρ' → Q i H2) → to σ H Q
def oNo : Ov := fun ρ => some (none, ρ)
def oSome (a : Ev) : Ov := fun ρ => match eSee a ρ with
  | some (.int i, ρ1) => some (some i, ρ1)
  | _ => none
theorem so_no : SO K w tNoPart oNo := fun ρ i ρ' he F0 H0 m F H σ S Q q => by cases he; exact q F H (.refl S.fh) S
theorem so_some (ha : SE K w ta a) : SO K w (tPart ta) (oSome a) := fun ρ i ρ' he F0 H0 m F H σ S Q q => by
  unfold oSome at he
  split at he
  · rename_i j ρ1 e1
    cases he
    exact se_see ha e1 S fun u F2 H2 g S2 o => ⟨j, rdb_int o, q F2 H2 g S2⟩
  · cases he
def sOr (r r2 : V → Option Int → Option Int → Hp → VK → Prop) : V → Option Int → Option Int → Hp → VK → Prop := fun x l h H Q => r x l h H Q ∨ r2 x l h H Q
theorem slr_or {X : Cx} {r r2 : V → Option Int → Option Int → Hp → VK → Prop} (h : SlR X r) (h2 : SlR X r2) : SlR X (sOr r r2) := by
  intro pins s σ H x v vl vu lo hi sl Q I rx hs pl pu z
  rcases z with z | z
  · exact h _ _ _ _ _ _ _ _ _ _ _ _ I rx hs pl pu z
  · exact h2 _ _ _ _ _ _ _ _ _ _ _ _ I rx hs pl pu z
def eSl (a : Ev) (lo hi : Ov) : Ev := fun ρ => match eRd a ρ with
  | none => none
  | some (x, ρ1) => match lo ρ1 with
    | none => none
    | some (l, ρ2) => match hi ρ2 with
      | none => none
      | some (h, ρ3) => match look ρ3 x with
        | some (.list ds) => some (.new (cutD ds l h), ρ3)
        | some (.tuple ds) => some (.d (.tuple (cutD ds l h)), ρ3)
        | _ => none
theorem se_sl {tl th : TO} {lo hi : Ov} (ha : SE K w ta a) (hl : SO K w tl lo) (hh : SO K w th hi) : SE K w (tSl (sOr (rSlL K) (rSlN K)) ta tl th) (eSl a lo hi) := fun ρ v ρ' he F0 H0 m F H σ S Q q => by
  unfold eSl at he
  split at he
  · cases he
  · rename_i x ρ1 e1
    split at he
    · cases he
    · rename_i l ρ2 e2
      split at he
      · cases he
      · rename_i h ρ3 e3
        refine se_rd ha ρ x ρ1 e1 _ _ _ _ _ _ S _ fun u F2 H2 g S2 o => hl ρ1 l ρ2 e2 _ _ _ _ _ _ S2 _ fun F3 H3 g2 S3 => hh ρ2 h ρ3 e3 _ _ _ _ _ _ S3 _ fun F4 H4 g3 S4 => ?_
        have o4 := o.up S g (g2.trans g3)
        have gg := g.trans (g2.trans g3)
        split at he
        · rename_i ds e4
          cases he
          obtain ⟨p, vs, rfl, sq, d⟩ := rdb_list (look_ok S4 o4 e4) S4.fh
          exact .inl ⟨p, vs, rfl, sq, fun p2 np => mk_new S4.fh np (da_cut d) fun u5 F5 H5 st o5 => q u5 F5 H5 (gg.trans (.of0 st)) (S4.up0 st) (o5.any.fromG gg)⟩
        · rename_i ds e4
          cases he
          obtain ⟨p, vs, rfl, sq, d, k⟩ := rdb_tuple (look_ok S4 o4 e4) S4.fh
          have ld := da_len d
          refine .inr ⟨p, vs, rfl, sq, fun z => ?_, fun z p2 np o ho => mk_tup S4.fh np ho (da_cut d) fun u5 F5 H5 st o5 => q u5 F5 H5 (gg.trans (.of0 st)) (S4.up0 st) (o5.any.fromG gg)⟩
          have ec : cutD ds l h = ds := by
            unfold cutD
            rw [← ld, z.1, z.2, List.drop_zero, Nat.sub_zero, ld, List.take_length]
          rw [ec] at q
          exact q _ F4 H4 gg S4 k
        · cases he
end
end MU

namespace MU
open PySem PySem.Spec L2
section
variable {K : PySem.W.Frag} {w : World} {te ta tb : TE} {a b e : Ev} {tt : TT} {t : Tv} {tz : TA} {as : Av} {wi : TI} {g : TG} {gs : TGs}
/-! ## what is walked -/
abbrev Iv := Sts → Option (List PD × Sts)
def SI (K : PySem.W.Frag) (w : World) (wi : TI) (it : Iv) : Prop := ∀ ρ ds ρ', it ρ = some (ds, ρ') → ∀ F0 H0 m F H σ, Sg K w F0 H0 m F H σ ρ → ∀ R : It → Hp → Prop,
  (∀ J F2 H2, Go σ ρ ρ' F H F2 H2 → Sg K w F0 H0 m F2 H2 σ ρ' → Yl K J F2 ds → R J H2) → wi σ H R
/-- what is kept of a list or a tuple -/
def eSeq (e : Ev) (ρ : Sts) : Option ((Bool × List PD) × Sts) := match eDat e ρ with
  | some (.d (.list ds), ρ1) => some ((false, ds), ρ1)
  | some (.d (.tuple ds), ρ1) => some ((true, ds), ρ1)
  | _ => none
theorem se_seq (h : SE K w te e) {ρ ρ' : Sts} {b : Bool} {ds : List PD} (he : eSeq e ρ = some ((b, ds), ρ')) {F0 H0 F H : Hp} {m : Addr → Prop} {σ : L2.St} (S : Sg K w F0 H0 m F H σ ρ) {Q : VK}
    (q : ∀ p vs F2 H2, Go σ ρ ρ' F H F2 H2 → Sg K w F0 H0 m F2 H2 σ ρ' → (if b then SqT K F2 p vs else SqL K F2 p vs) → DpAll K F2 vs ds → Q (.ref p) H2) : te σ H Q := by
  unfold eSeq at he
  split at he
  · rename_i e1
    cases he
    refine se_dat h ρ _ _ e1 _ _ _ _ _ _ S _ fun u F2 H2 g S2 o => ?_
    obtain ⟨p, vs, rfl, h1, h2⟩ := dp_list o
    exact q p vs F2 H2 g S2 h1 h2
  · rename_i e1
    cases he
    refine se_dat h ρ _ _ e1 _ _ _ _ _ _ S _ fun u F2 H2 g S2 o => ?_
    obtain ⟨p, vs, rfl, h1, h2⟩ := dp_tuple o
    exact q p vs F2 H2 g S2 h1 h2
  · cases he
def itSeq (e : Ev) : Iv := fun ρ => (eSeq e ρ).map fun r => (r.1.2, r.2)
theorem si_seq (h : SE K w te e) : SI K w (iOr (iTup K te) (iList K te)) (itSeq e) := fun ρ ds ρ' he F0 H0 m F H σ S R q => by
  unfold itSeq at he
  cases e1 : eSeq e ρ with
  | none => rw [e1] at he; cases he
  | some r =>
    obtain ⟨⟨b, xs⟩, ρ1⟩ := r
    rw [e1] at he
    cases he
    cases b with
    | true => exact .inl (se_seq h e1 S fun p vs F2 H2 g S2 sq d => ⟨p, rfl, ⟨vs, sqt_up S2.fh sq⟩, q _ F2 H2 g S2 (yl_tup sq d)⟩)
    | false => exact .inr (se_seq h e1 S fun p vs F2 H2 g S2 sq d => ⟨p, rfl, ⟨vs, S2.fh.seq sq⟩, q _ F2 H2 g S2 (yl_list sq d)⟩)
def itEnum (e : Ev) : Iv := fun ρ => (eSeq e ρ).map fun r => (enumD r.1.2, r.2)
theorem si_enum (h : SE K w te e) : SI K w (iOr (iEnT K (tCons te tNil)) (iEnL K (tCons te tNil))) (itEnum e) := fun ρ ds ρ' he F0 H0 m F H σ S R q => by
  unfold itEnum at he
  cases e1 : eSeq e ρ with
  | none => rw [e1] at he; cases he
  | some r =>
    obtain ⟨⟨b, xs⟩, ρ1⟩ := r
    rw [e1] at he
    cases he
    cases b with
    | true => exact .inl (se_seq h e1 S fun p vs F2 H2 g S2 sq d => ⟨p, vs, rfl, sqt_up S2.fh sq, q _ F2 H2 g S2 (yl_enumT sq d)⟩)
    | false => exact .inr (se_seq h e1 S fun p vs F2 H2 g S2 sq d => ⟨p, vs, rfl, S2.fh.seq sq, q _ F2 H2 g S2 (yl_enumL sq d)⟩)
def rngOk : Int → Bool
  | .ofNat n => Nat.ble (n + 1) 4611686018427387904
  | .negSucc n => Nat.ble (n + 1) 4611686018427387904
theorem rngOk_of {i : Int} (h : rngOk i = true) : -(2 ^ 62) ≤ i ∧ i < 2 ^ 62 := by
  cases i with
  | ofNat n =>
    have l : n + 1 ≤ 4611686018427387904 := Nat.le_of_ble_eq_true h
    have e : Int.ofNat n = (n : Int) := rfl
    omega
  | negSucc n =>
    have l : n + 1 ≤ 4611686018427387904 := Nat.le_of_ble_eq_true h
    have e : Int.negSucc n = -((n : Int) + 1) := Int.negSucc_eq n
    omega
def itRng1 (a : Ev) : Iv := fun ρ => match eSee a ρ with
  | some (.int n, ρ1) => if rngOk n then some (rngD 0 n.toNat, ρ1) else none
  | _ => none
theorem si_rng1 (h : SE K w ta a) : SI K w (iRng1 (tCons ta tNil)) (itRng1 a) := fun ρ ds ρ' he F0 H0 m F H σ S R q => by
  unfold itRng1 at he
  split at he
  · rename_i n ρ1 e1
    split at he
    · rename_i l
      cases he
      obtain ⟨l1, l2⟩ := rngOk_of l
      exact se_see h e1 S fun u F2 H2 g S2 o => ⟨n, by rw [rdb_int o], l1, l2, q _ F2 H2 g S2 yl_rng⟩
    · cases he
  · cases he
def itRng2 (a b : Ev) : Iv := fun ρ => match eSee a ρ with
  | some (.int i, ρ1) => match eSee b ρ1 with
    | some (.int j, ρ2) => if rngOk i && rngOk j then some (rngD i (j - i).toNat, ρ2) else none
    | _ => none
  | _ => none
theorem si_rng2 (h : SE K w ta a) (h2 : SE K w tb b) : SI K w (iRng2 (tCons ta (tCons tb tNil))) (itRng2 a b) := fun ρ ds ρ' he F0 H0 m F H σ S R q => by
  unfold itRng2 at he
  split at he
  · rename_i i ρ1 e1
    split at he
    · rename_i j ρ2 e2
      split at he
      · rename_i l
        cases he
        rw [Bool.and_eq_true] at l
        obtain ⟨l1, l2⟩ := rngOk_of l.1
        obtain ⟨l3, l4⟩ := rngOk_of l.2
        exact se_see h e1 S fun u F2 H2 g S2 o => se_see h2 e2 S2 fun u2 F3 H3 g2 S3 o2 => ⟨i, j, by rw [rdb_int o, rdb_int o2], ⟨l1, l2, l3, l4⟩, q _ F3 H3 (g.trans g2) S3 yl_rng⟩
      · cases he
    · cases he
  · cases he
/-! ## targets -/
abbrev Gv := PD → Sts → Option Sts
abbrev Gvs := List PD → Sts → Option Sts
structure SGc (K : PySem.W.Frag) (w : World) (g : TG) (is : List Nat) (gv : Gv) : Prop where
  tg : ∀ ρ x ρ', gv x ρ = some ρ' → TgD K w g is (stsTo w ρ) x (stsTo w ρ')
  keep : ∀ ρ x ρ', gv x ρ = some ρ' → ∀ (j : Nat) (s : Sl), ρ'[j]? = some s → s.mt = true → ρ[j]? = some s ∧ j ∉ is
structure SGsc (K : PySem.W.Frag) (w : World) (g : TGs) (is : List Nat) (gv : Gvs) : Prop where
  tg : ∀ ρ x ρ', gv x ρ = some ρ' → TgsD K w g is (stsTo w ρ) x (stsTo w ρ')
  keep : ∀ ρ x ρ', gv x ρ = some ρ' → ∀ (j : Nat) (s : Sl), ρ'[j]? = some s → s.mt = true → ρ[j]? = some s ∧ j ∉ is
def gvName (i : Nat) : Gv := fun x ρ => some (ρ.set i (.d x))
theorem sgc_name {i : Nat} : SGc K w (gName i) [i] (gvName i) := by
  refine ⟨fun ρ x ρ' h => ?_, fun ρ x ρ' h j s hj ms => ?_⟩
  · cases h
    rw [sts_set]
    exact tg_name
  · cases h
    by_cases z : i = j
    · subst z
      have l : i < ρ.length := by
        have := (List.getElem?_eq_some_iff.mp hj).1
        rw [List.length_set] at this
        exact this
      rw [List.getElem?_set_self l] at hj
      cases hj
      cases ms
    · rw [List.getElem?_set_ne z] at hj
      exact ⟨hj, fun h => z (List.mem_singleton.mp h).symm⟩
def gvsNil : Gvs := fun xs ρ => match xs with
  | [] => some ρ
  | _ => none
def gvsCons (gv : Gv) (gvs : Gvs) : Gvs := fun xs ρ => match xs with
  | [] => none
  | x :: xs => match gv x ρ with
    | none => none
    | some ρ1 => gvs xs ρ1
theorem sgsc_nil : SGsc K w gNil [] gvsNil := by
  refine ⟨fun ρ x ρ' h => ?_, fun ρ x ρ' h j s hj ms => ?_⟩
  · unfold gvsNil at h
    split at h
    · cases h; exact tgs_nil
    · cases h
  · unfold gvsNil at h
    split at h
    · cases h; exact ⟨hj, List.not_mem_nil⟩
    · cases h
theorem sgsc_cons {i1 i2 : List Nat} {gv : Gv} {gvs : Gvs} (h : SGc K w g i1 gv) (h2 : SGsc K w gs i2 gvs) : SGsc K w (gCons g gs) (i1 ++ i2) (gvsCons gv gvs) := by
  refine ⟨fun ρ xs ρ' e => ?_, fun ρ xs ρ' e j s hj ms => ?_⟩
  · unfold gvsCons at e
    split at e
    · cases e
    · split at e
      · cases e
      · rename_i x xs ρ1 e1
        exact tgs_cons (h.tg _ _ _ e1) (h2.tg _ _ _ e)
  · unfold gvsCons at e
    split at e
    · cases e
    · split at e
      · cases e
      · rename_i x xs ρ1 e1
        obtain ⟨k1, n1⟩ := h2.keep _ _ _ e j s hj ms
        obtain ⟨k2, n2⟩ := h.keep _ _ _ e1 j s k1 ms
        exact ⟨k2, fun z => (List.mem_append.mp z).elim n2 n1⟩
def gvTup (n : Nat) (gvs : Gvs) : Gv := fun x ρ => match x with
  | .tuple xs => if xs.length = n then gvs xs ρ else none
  | _ => none
theorem sgc_tup {n : Nat} {is : List Nat} {gvs : Gvs} (h : SGsc K w gs is gvs) : SGc K w (gTup K n gs) is (gvTup n gvs) := by
  refine ⟨fun ρ x ρ' e => ?_, fun ρ x ρ' e j s hj ms => ?_⟩
  · unfold gvTup at e
    split at e
    · split at e
      · rename_i l
        exact tg_tup (h.tg _ _ _ e) l
      · cases e
    · cases e
  · unfold gvTup at e
    split at e
    · split at e
      · exact h.keep _ _ _ e j s hj ms
      · cases e
    · cases e
/-! ## comprehensions -/
def wipeS (ρ : Sts) : List Nat → Sts
  | [] => ρ
  | v :: vs => (wipeS ρ vs).set v .emp
def backS (ρ : Sts) : List Nat → Sts → Sts
  | [], ρe => ρe
  | v :: vs, ρe => (backS ρ vs ρe).set v ((ρ[v]?).getD .emp)
theorem wipeS_to (ρ : Sts) : ∀ vs : List Nat, stsTo w (wipeS ρ vs) = wipeD (stsTo w ρ) vs
  | [] => rfl
  | v :: vs => by
    unfold wipeS wipeD
    rw [sts_set, wipeS_to ρ vs]
    rfl
theorem wipeS_len (ρ : Sts) : ∀ vs : List Nat, (wipeS ρ vs).length = ρ.length
  | [] => rfl
  | v :: vs => by unfold wipeS; rw [List.length_set, wipeS_len ρ vs]
theorem backS_len (ρ ρe : Sts) : ∀ vs : List Nat, (backS ρ vs ρe).length = ρe.length
  | [] => rfl
  | v :: vs => by unfold backS; rw [List.length_set, backS_len ρ ρe vs]
theorem wipeS_at (ρ : Sts) : ∀ (vs : List Nat) (j : Nat) (s : Sl), (wipeS ρ vs)[j]? = some s → s.mt = true → ρ[j]? = some s ∧ j ∉ vs
  | [], j, s, h, _ => ⟨h, List.not_mem_nil⟩
  | v :: vs, j, s, h, ms => by
    unfold wipeS at h
    by_cases z : v = j
    · subst z
      have l : v < (wipeS ρ vs).length := by
        have := (List.getElem?_eq_some_iff.mp h).1
        rw [List.length_set] at this
        exact this
      rw [List.getElem?_set_self l] at h
      cases h
      cases ms
    · rw [List.getElem?_set_ne z] at h
      obtain ⟨h1, h2⟩ := wipeS_at ρ vs j s h ms
      exact ⟨h1, fun q => (List.mem_cons.mp q).elim (fun e => z e.symm) h2⟩
theorem backS_at (ρ ρe : Sts) (hl : ρe.length = ρ.length) : ∀ (vs : List Nat) (j : Nat), (backS ρ vs ρe)[j]? = if j ∈ vs then ρ[j]? else ρe[j]?
  | [], j => by rw [if_neg List.not_mem_nil]; rfl
  | v :: vs, j => by
    unfold backS
    by_cases z : v = j
    · subst z
      rw [if_pos List.mem_cons_self]
      by_cases l : v < ρ.length
      · rw [List.getElem?_set_self (by rw [backS_len, hl]; exact l), List.getElem?_eq_getElem l]
        rfl
      · rw [List.getElem?_eq_none (by rw [List.length_set, backS_len, hl]; omega), List.getElem?_eq_none (by omega)]
    · rw [List.getElem?_set_ne z, backS_at ρ ρe hl vs j]
      by_cases q : j ∈ vs
      · rw [if_pos q, if_pos (List.mem_cons_of_mem _ q)]
      · rw [if_neg q, if_neg fun h => (List.mem_cons.mp h).elim (fun e => z e.symm) q]
theorem wipe_out (σ : L2.St) {vs : List Nat} {j : Nat} (h : j ∉ vs) : (L2.wipe σ vs)[j]? = σ[j]? := by rw [wipe_get, if_neg fun z => h z.1]
/-- out of the comprehension's block -/
theorem Sg.back {F0 H0 F H Fe He : Hp} {m : Addr → Prop} {σ : L2.St} {ρ ρe : Sts} {vs : List Nat} (S : Sg K w F0 H0 m F H σ ρ) (g : Go (L2.wipe σ vs) (wipeS ρ vs) ρe F H Fe He) (Se : Sg K w F0 H0 m Fe He (L2.wipe σ vs) ρe) :
    Go σ ρ (backS ρ vs ρe) F H Fe He ∧ Sg K w F0 H0 m Fe He σ (backS ρ vs ρe) := by
  have ls : ρe.length = ρ.length := by
    have h1 := Se.len
    have h2 := S.len
    rw [sts_len] at h1 h2
    rw [L2.wipe_length] at h1
    omega
  have ow : ∀ a, Ow (L2.wipe σ vs) (wipeS ρ vs) a → ∃ (j : Nat) (s : Sl), j ∉ vs ∧ ρ[j]? = some s ∧ s.mt = true ∧ σ[j]? = some (some (.ref a)) := fun a ⟨j, s, e1, e2, e3⟩ => by
    obtain ⟨h1, h2⟩ := wipeS_at ρ vs j s e1 e2
    exact ⟨j, s, h2, h1, e2, by rw [← wipe_out σ h2]; exact e3⟩
  have ow2 : ∀ a, Ow (L2.wipe σ vs) (wipeS ρ vs) a → Ow σ ρ a := fun a o => by
    obtain ⟨j, s, _, h1, h2, h3⟩ := ow a o
    exact ⟨j, s, h1, h2, h3⟩
  have old : ∀ (j : Nat) (s : Sl), j ∉ vs → ρe[j]? = some s → s.mt = true → ∃ s0 : Sl, ρ[j]? = some s0 ∧ s0.mt = true ∧ (s.giv = true → s0.giv = true) := fun j s n e ms => by
    obtain ⟨s0, e0, m0, k0⟩ := g.sub j s e ms
    exact ⟨s0, (wipeS_at ρ vs j s0 e0 m0).1, m0, k0⟩
  have get : ∀ (j : Nat) (s : Sl), (backS ρ vs ρe)[j]? = some s → (j ∈ vs ∧ ρ[j]? = some s) ∨ (j ∉ vs ∧ ρe[j]? = some s) := fun j s h => by
    rw [backS_at ρ ρe ls] at h
    by_cases z : j ∈ vs
    · rw [if_pos z] at h; exact .inl ⟨z, h⟩
    · rw [if_neg z] at h; exact .inr ⟨z, h⟩
  have sub : Sub (backS ρ vs ρe) ρ := fun j s h ms => by
    rcases get j s h with ⟨_, h⟩ | ⟨n, h⟩
    · exact ⟨s, h, ms, id⟩
    · exact old j s n h ms
  have away : ∀ (j : Nat) (s : Sl) (p : Addr), j ∈ vs → ρ[j]? = some s → s.mt = true → (σ[j]?).join = some (.ref p) → ¬ Ow (L2.wipe σ vs) (wipeS ρ vs) p := fun j s p jv e ms h o => by
    obtain ⟨i, s', ni, e', m', r⟩ := ow p o
    exact S.dis j i _ _ _ (fun z => ni (z ▸ jv)) (sts_at (w := w) e) (sts_at e') (by rw [to_mt]; exact ms) (by rw [to_mt]; exact m') (opt_join h) r
  have mtof : ∀ {s : Sl}, (s.to w).mt = true → s.mt = true := fun {s} h => by rw [to_mt] at h; exact h
  refine ⟨⟨g.ff, g.fh, fun a o n e => g.hh a o (fun z => n (ow2 a z)) e, fun a n => g.nj a (fun z => n (ow2 a z)), g.hn, g.nd, sub⟩, ⟨Se.st, by rw [sts_len, backS_len, ls, ← sts_len w ρ]; exact S.len, fun j z hz => ?_, fun j k sj sk v jk ej ek mj mk e => ?_, fun j z q ej mz eq => ?_, S.n0⟩⟩
  · obtain ⟨s, e2, rfl⟩ := sts_of hz
    rcases get j s e2 with ⟨jv, e2⟩ | ⟨n, e2⟩
    · have k := S.ok j _ (sts_at (w := w) e2)
      cases s with
      | emp => exact trivial
      | d x => obtain ⟨v, h1, h2⟩ := k; exact ⟨v, h1, dp_up g.ff _ _ h2⟩
      | own b ys =>
        obtain ⟨q, vs', h1, h2, h3, h4⟩ := k
        have no := away j _ q jv e2 rfl h1
        exact ⟨q, vs', h1, g.nj q no h2 (by rw [h3]; exact fun z => nomatch z), g.hh q _ no h3, da_up g.ff _ _ h4⟩
      | iset ks =>
        obtain ⟨q, h1, h2, h3⟩ := k
        have no := away j _ q jv e2 rfl h1
        exact ⟨q, h1, g.nj q no h2 (by rw [h3]; exact fun z => nomatch z), g.hh q _ no h3⟩
      | nset ks =>
        obtain ⟨q, h1, h2, h3⟩ := k
        have no := away j _ q jv e2 rfl h1
        exact ⟨q, h1, g.nj q no h2 (by rw [h3]; exact fun z => nomatch z), g.hh q _ no h3⟩
    · have k := Se.ok j _ (sts_at (w := w) e2)
      rw [wipe_out σ n] at k
      exact k
  · obtain ⟨s1, a1, rfl⟩ := sts_of ej
    obtain ⟨s2, a2, rfl⟩ := sts_of ek
    rcases get j s1 a1 with ⟨jv, b1⟩ | ⟨jn, b1⟩
    · obtain ⟨s3, b3, m3⟩ : ∃ s3, ρ[k]? = some s3 ∧ s3.mt = true := by
        rcases get k s2 a2 with ⟨_, b2⟩ | ⟨kn, b2⟩
        · exact ⟨s2, b2, mtof mk⟩
        · obtain ⟨s3, b3, m3, _⟩ := old k s2 kn b2 (mtof mk); exact ⟨s3, b3, m3⟩
      exact S.dis j k _ _ v jk (sts_at (w := w) b1) (sts_at b3) mj (by rw [to_mt]; exact m3) e
    · rcases get k s2 a2 with ⟨kv, b2⟩ | ⟨kn, b2⟩
      · obtain ⟨s3, b3, m3, _⟩ := old j s1 jn b1 (mtof mj)
        exact S.dis j k _ _ v jk (sts_at (w := w) b3) (sts_at b2) (by rw [to_mt]; exact m3) mk e
      · have := Se.dis j k _ _ v jk (sts_at (w := w) b1) (sts_at b2) mj mk (by rw [wipe_out σ jn]; exact e)
        rw [wipe_out σ kn] at this
        exact this
  · obtain ⟨s1, a1, rfl⟩ := sts_of ej
    rcases get j s1 a1 with ⟨jv, b1⟩ | ⟨jn, b1⟩
    · exact S.fr j _ q (sts_at b1) mz eq
    · exact Se.fr j _ q (sts_at b1) mz (by rw [wipe_out σ jn]; exact eq)
/-- an object that is no slot's changes -/
theorem Sg.other {F0 H0 F H : Hp} {m : Addr → Prop} {σ : L2.St} {ρ : Sts} {p : Addr} {o : HO} (S : Sg K w F0 H0 m F H σ ρ) (f : F p = none) (n0 : H0 p = none) (no : ¬ Ow σ ρ p) (ko : OkO o) : Sg K w F0 H0 m F (upd H p o) σ ρ := by
  have ne : ∀ (i : Nat) (s : Sl) (q : Addr), ρ[i]? = some s → s.mt = true → (σ[i]?).join = some (.ref q) → q ≠ p := fun i s q e1 e2 e3 z => by
    subst z
    exact no ⟨i, s, e1, e2, opt_join e3⟩
  refine ⟨⟨S.st.ff, fun b x e => by rw [upd_ne (ne_of_none e f)]; exact S.fh b x e, fun a u na e => ?_, S.st.nj, fun a n => up_some (S.st.hn a n), fun n => (S.st.nd n).put ko⟩, S.len, fun i z hz => ?_, S.dis, S.fr, S.n0⟩
  · rw [upd_ne (fun z => by rw [z, n0] at e; cases e)]
    exact S.st.hh a u na e
  · obtain ⟨s, e1, rfl⟩ := sts_of hz
    have k := S.ok i _ hz
    cases s with
    | emp => exact trivial
    | d x => exact k
    | own b xs => obtain ⟨q, vs, h1, h2, h3, h4⟩ := k; exact ⟨q, vs, h1, h2, by rw [upd_ne (ne i _ q e1 rfl h1)]; exact h3, h4⟩
    | iset ks => obtain ⟨q, h1, h2, h3⟩ := k; exact ⟨q, h1, h2, by rw [upd_ne (ne i _ q e1 rfl h1)]; exact h3⟩
    | nset ks => obtain ⟨q, h1, h2, h3⟩ := k; exact ⟨q, h1, h2, by rw [upd_ne (ne i _ q e1 rfl h1)]; exact h3⟩
end
end MU

namespace MU
open PySem PySem.Spec L2
section
variable {K : PySem.W.Frag} {w : World} {te ta tb : TE} {a b e : Ev} {tt : TT} {t : Tv} {tz : TA} {as : Av} {wi : TI} {g : TG} {gs : TGs}
def lcL (vs : List Nat) (gv : Gv) (t : Tv) (e : Ev) : List PD → Sts → Option (List PD × Sts)
  | [], ρ => some ([], ρ)
  | d :: ds, ρ => match gv d ρ with
    | none => none
    | some ρa => match t ρa with
      | none => none
      | some (false, ρb) => lcL vs gv t e ds (wipeS ρb vs)
      | some (true, ρb) => match eDat e ρb with
        | some (.d y, ρc) => (lcL vs gv t e ds (wipeS ρc vs)).map fun r => (y :: r.1, r.2)
        | _ => none
/-- [e for g in it if t]; vs: the places of its own names -/
def eLc (vs : List Nat) (it : Iv) (gv : Gv) (t : Tv) (e : Ev) : Ev := fun ρ => match it ρ with
  | none => none
  | some (ds, ρ1) => if ds.length ≤ 100000 then (match lcL vs gv t e ds (wipeS ρ1 vs) with
      | none => none
      | some (ys, ρe) => some (.new ys, backS ρ1 vs ρe)) else none
theorem lcL_len {vs : List Nat} {gv : Gv} {t : Tv} {e : Ev} : ∀ {ds : List PD} {ρ ρ' : Sts} {ys : List PD}, lcL vs gv t e ds ρ = some (ys, ρ') → ys.length ≤ ds.length
  | [], _, _, _, h => by cases h; exact Nat.le_refl _
  | d :: ds, ρ, ρ', ys, h => by
    unfold lcL at h
    split at h
    · cases h
    · split at h
      · cases h
      · have := lcL_len h; rw [List.length_cons]; omega
      · split at h
        · rename_i ρa _ ρb _ y ρc _
          cases e1 : lcL vs gv t e ds (wipeS ρc vs) with
          | none => rw [e1] at h; cases h
          | some r =>
            obtain ⟨r1, r2⟩ := r
            rw [e1] at h
            cases h
            have := lcL_len e1
            exact Nat.succ_le_succ this
        · cases h
theorem Sg.wipe {F0 H0 F H : Hp} {m : Addr → Prop} {σ : L2.St} {ρ : Sts} (S : Sg K w F0 H0 m F H σ ρ) (vs : List Nat) : Sg K w F0 H0 m F H (L2.wipe σ vs) (wipeS ρ vs) := by
  show Sig K w F0 H0 m F H (L2.wipe σ vs) (stsTo w (wipeS ρ vs))
  rw [wipeS_to]
  exact Sig.wipe S vs
theorem se_lc {vs is : List Nat} {it : Iv} {gv : Gv} (hi : SI K w wi it) (hg : SGc K w g is gv) (hv : ∀ j ∈ is, j ∈ vs) (ht : ST K w tt t) (he : SE K w te e) : SE K w (tLc wi g tt te vs) (eLc vs it gv t e) := fun ρ v ρ' h F0 H0 m F H σ S Q q => by
  unfold eLc at h
  split at h
  · cases h
  rename_i ds ρ1 e1
  split at h
  rotate_left
  · cases h
  rename_i hl
  split at h
  · cases h
  rename_i ys ρe e2
  cases h
  refine hi ρ ds ρ1 e1 _ _ _ _ _ _ S _ fun J F1 H1 g1 S1 Y => fun D nD => ?_
  have f1 : F1 D = none := S1.fh.free nD
  have n0 : H0 D = none := S1.old nD
  have noD : ∀ ρx, Sub ρx (wipeS ρ1 vs) → ¬ Ow (L2.wipe σ vs) ρx D := fun ρx sb o => by
    obtain ⟨j, s, e3, e4, e5⟩ := sb.ow o
    obtain ⟨h1, h2⟩ := wipeS_at ρ1 vs j s e3 e4
    exact (S1.live ⟨j, s, h1, e4, by rw [← wipe_out σ h2]; exact e5⟩).2 nD
  have kD : ∀ a o, H1 a = some o → a ≠ D := fun a o e z => by rw [z, nD] at e; cases e
  refine ⟨fun i n H' => n = ds.length - i ∧ i ≤ ds.length ∧ ∃ F' acc ρi ys1 ys2, Sg K w F0 H0 m F' H' (L2.wipe σ vs) ρi ∧ Go (L2.wipe σ vs) (wipeS ρ1 vs) ρi F1 H1 F' H' ∧ F' D = none ∧ H' D = some (.lst acc) ∧ DpAll K F' acc ys1 ∧ lcL vs gv t e (ds.drop i) ρi = some (ys2, ρe) ∧ ys1 ++ ys2 = ys,
    ⟨ds.length, by omega, Nat.zero_le _, F1, [], wipeS ρ1 vs, [], ys, (S1.wipe vs).other f1 n0 (noD _ (.refl _)) ok_lst, ⟨Same.refl F1, S1.fh.trans (same_new nD), fun a o _ e => same_new nD a o e, fun _ _ e _ => e, fun a n => up_some n, fun n => n.put ok_lst, .refl _⟩, f1, upd_same, .nil, e2, rfl⟩, ?_⟩
  rintro i n H' ⟨rfl, li, F', acc, ρi, ys1, ys2, Si, gi, fD, hD, hd, e3, ey⟩
  have y := Y F' H' gi.ff Si.fh i
  have lD := da_len hd
  have lys := lcL_len e3
  have lys2 := lcL_len e2
  by_cases z : i < ds.length
  · refine .inr ?_
    have ex : ds[i]? = some ds[i] := List.getElem?_eq_getElem z
    obtain ⟨y1, y2⟩ := y.1 _ ex
    have ed : ds.drop i = ds[i] :: ds.drop (i + 1) := List.drop_eq_getElem_cons z
    rw [ed] at e3
    refine ⟨y1, fun H' => i + 1 ≤ ds.length ∧ ∃ F' acc ρi ys1 ys2, Sg K w F0 H0 m F' H' (L2.wipe σ vs) ρi ∧ Go (L2.wipe σ vs) (wipeS ρ1 vs) ρi F1 H1 F' H' ∧ F' D = none ∧ H' D = some (.lst acc) ∧ DpAll K F' acc ys1 ∧ lcL vs gv t e (ds.drop (i + 1)) ρi = some (ys2, ρe) ∧ ys1 ++ ys2 = ys, fun H' h' => ⟨ds.length - (i + 1), by omega, rfl, h'⟩, fun x H3 yy => ?_⟩
    obtain ⟨F3, s3, d3⟩ := y2 x H3 yy
    unfold lcL at e3
    split at e3
    · cases e3
    rename_i ρa ea
    have S3 := Si.up0 s3
    have g3 := gi.trans (.of0 (σ := L2.wipe σ vs) (ρ := ρi) s3)
    have n3 : F3 D = none := s3.nj D fD (by rw [hD]; exact fun z => nomatch z)
    have h3 : H3 D = some (.lst acc) := s3.hs _ _ hD
    refine hg.tg _ _ _ ea _ _ _ _ _ _ _ S3 d3 _ fun σ2 S4 l4 k4 => ⟨wipe_back l4 k4 hv, ?_⟩
    have owa : ∀ p, Ow σ2 ρa p → Ow (L2.wipe σ vs) ρi p := fun p ⟨j, s, o1, o2, o3⟩ => by
      obtain ⟨o4, o5⟩ := hg.keep _ _ _ ea j s o1 o2
      exact ⟨j, s, o4, o2, by rw [← k4 j o5]; exact o3⟩
    have suba : Sub ρa ρi := fun j s o1 o2 => ⟨s, (hg.keep _ _ _ ea j s o1 o2).1, o2, id⟩
    have subw : ∀ ρx : Sts, Sub (wipeS ρx vs) ρx := fun ρx j s o1 o2 => ⟨s, (wipeS_at ρx vs j s o1 o2).1, o2, id⟩
    have wb := wipe_back l4 k4 hv
    -- from the item's place to the next turn
    have nxt : ∀ {ρb : Sts} {Fb Hb : Hp}, Go σ2 ρa ρb F3 H3 Fb Hb → Go (L2.wipe σ vs) (wipeS ρ1 vs) (wipeS ρb vs) F1 H1 Fb Hb := fun {ρb Fb Hb} gb =>
      g3.trans ⟨gb.ff, gb.fh, fun p o n e => gb.hh p o (fun z => n (owa p z)) e, fun p n => gb.nj p (fun z => n (owa p z)), gb.hn, gb.nd, (subw ρb).trans (gb.sub.trans suba)⟩
    have nD2 : ¬ Ow σ2 ρa D := fun o => noD ρi gi.sub (owa D o)
    split at e3
    · cases e3
    · rename_i ρb eb
      refine ht ρa false ρb eb _ _ _ _ _ _ S4 _ fun F5 H5 g5 S5 => ?_
      rw [if_neg Bool.false_ne_true]
      have gn := nxt g5
      refine ⟨z, F5, acc, wipeS ρb vs, ys1, ys2, by rw [← wb]; exact S5.wipe vs, gn, g5.nj D nD2 n3 (by rw [h3]; exact fun z => nomatch z), g5.hh D _ nD2 h3, da_up (s3.ff.trans g5.ff) _ _ hd, e3, ey⟩
    · rename_i ρb eb
      split at e3
      rotate_left
      · cases e3
      rename_i y0 ρc ec
      cases e4 : lcL vs gv t e (ds.drop (i + 1)) (wipeS ρc vs) with
      | none => rw [e4] at e3; cases e3
      | some r =>
        obtain ⟨ys3, ρz⟩ := r
        rw [e4] at e3
        cases e3
        refine ht ρa true ρb eb _ _ _ _ _ _ S4 _ fun F5 H5 g5 S5 => ?_
        rw [if_pos rfl]
        refine se_dat he ρb _ ρc ec _ _ _ _ _ _ S5 _ fun u F6 H6 g6 S6 o6 => ?_
        have g56 := g5.trans g6
        have gn := nxt g56
        have f6 : F6 D = none := g56.nj D nD2 n3 (by rw [h3]; exact fun z => nomatch z)
        have h6 : H6 D = some (.lst acc) := g56.hh D _ nD2 h3
        have S6w : Sg K w F0 H0 m F6 H6 (L2.wipe σ vs) (wipeS ρc vs) := by rw [← wb]; exact S6.wipe vs
        refine ⟨acc, h6, lt_line ?_, z, F6, acc ++ [u], wipeS ρc vs, ys1 ++ [y0], ys3, S6w.other f6 n0 (noD _ gn.sub) ok_lst, ?_, f6, upd_same, da_app (da_up (s3.ff.trans g56.ff) _ _ hd) (.cons o6 .nil), e4, by rw [List.append_assoc]; exact ey⟩
        · have l1 := congrArg List.length ey
          rw [List.length_append, List.length_cons] at l1
          omega
        · exact ⟨gn.ff, fun p o eb => by rw [upd_ne (ne_of_none eb f6)]; exact gn.fh p o eb, fun p o no ea => by rw [upd_ne (kD p o ea)]; exact gn.hh p o no ea, gn.nj, fun p np => up_some (gn.hn p np), fun n => (gn.nd n).put ok_lst, gn.sub⟩
  · refine .inl ⟨y.2 (by omega), ?_⟩
    rw [List.drop_of_length_le (by omega)] at e3
    cases e3
    rw [List.append_nil] at ey
    subst ey
    obtain ⟨gB, SB⟩ := S1.back gi Si
    exact q (.ref D) F' H' (g1.trans gB) SB ⟨D, acc, rfl, fD, by
      cases e1 : H D with
      | none => rfl
      | some o => exact absurd nD (g1.hn D (by rw [e1]; exact fun z => nomatch z)), hD, hd⟩
end
end MU

namespace MU
open PySem PySem.Spec L2
/-! ## statements -/
inductive Fl where
  | next
  | ret (v : Vl)
  | brk
  | cont
abbrev Sv := Sts → Option (Fl × Sts)
/-- the caller's lists stay under their names -/
def Kf (σ σ2 : L2.St) (ρ ρ' : Sts) : Prop := ∀ (i : Nat) (xs : List PD), ρ'[i]? = some (.own false xs) → σ2[i]? = σ[i]? ∧ ∃ ys, ρ[i]? = some (.own false ys)
theorem Kf.refl (σ : L2.St) (ρ : Sts) : Kf σ σ ρ ρ := fun i xs h => ⟨rfl, xs, h⟩
theorem Kf.trans {σ σ1 σ2 : L2.St} {ρ ρ1 ρ2 : Sts} (a : Kf σ σ1 ρ ρ1) (b : Kf σ1 σ2 ρ1 ρ2) : Kf σ σ2 ρ ρ2 := fun i xs h => by
  obtain ⟨h1, ys, h2⟩ := b i xs h
  obtain ⟨h3, zs, h4⟩ := a i ys h2
  exact ⟨h1.trans h3, zs, h4⟩
def EndOk (K : PySem.W.Frag) (H0 : Hp) (D : Ends) (F2 H2 : Hp) (σ2 : L2.St) : Fl → Prop
  | .next => D.nx σ2 H2
  | .brk => D.bk σ2 H2
  | .cont => D.ct σ2 H2
  | .ret v => ∀ u, VOk K [] H0 F2 H2 u v → D.rt u H2
def SS (K : PySem.W.Frag) (w : World) (ts : TS) (s : Sv) : Prop := ∀ ρ fl ρ', s ρ = some (fl, ρ') → ∀ F0 H0 m F H σ, Sg K w F0 H0 m F H σ ρ → ∀ D : Ends,
  (∀ F2 H2 σ2, Same F F2 → Sg K w F0 H0 m F2 H2 σ2 ρ' → Kf σ σ2 ρ ρ' → EndOk K H0 D F2 H2 σ2 fl) → ts D σ H
section
variable {K : PySem.W.Frag} {w : World} {te ta tb : TE} {a b e : Ev} {tt : TT} {t : Tv} {tz : TA} {as : Av} {wi : TI} {g : TG} {gs : TGs} {ts us : TS} {s s2 : Sv}
theorem Sg.getS {F0 H0 F H : Hp} {m : Addr → Prop} {σ : L2.St} {ρ : Sts} (S : Sg K w F0 H0 m F H σ ρ) : σ.length = ρ.length := by rw [← sts_len w ρ]; exact S.len
theorem giv_of {s : Sl} (h : s.giv = true) : ∃ xs, s = .own false xs := by
  unfold Sl.giv at h
  split at h
  · exact ⟨_, rfl⟩
  · cases h
/-- what an expression does keeps the caller's lists under their names -/
theorem Go.kf {F H F2 H2 : Hp} {σ : L2.St} {ρ ρ' : Sts} (g : Go σ ρ ρ' F H F2 H2) : Kf σ σ ρ ρ' := fun i xs h => by
  obtain ⟨s0, e0, _, k⟩ := g.sub i _ h rfl
  obtain ⟨ys, rfl⟩ := giv_of (k rfl)
  exact ⟨rfl, ys, e0⟩
def sNext : Sv := fun ρ => some (.next, ρ)
def sBrk : Sv := fun ρ => some (.brk, ρ)
def sCont : Sv := fun ρ => some (.cont, ρ)
def sNever : Sv := fun _ => none
theorem ss_next : SS K w tNext sNext := fun ρ fl ρ' h F0 H0 m F H σ S D q => by cases h; exact q F H σ (Same.refl F) S (.refl _ _)
theorem ss_brk : SS K w tBreak sBrk := fun ρ fl ρ' h F0 H0 m F H σ S D q => by cases h; exact q F H σ (Same.refl F) S (.refl _ _)
theorem ss_cont : SS K w tCont sCont := fun ρ fl ρ' h F0 H0 m F H σ S D q => by cases h; exact q F H σ (Same.refl F) S (.refl _ _)
theorem ss_never : SS K w ts sNever := fun ρ fl ρ' h => by cases h
def sSeq (s s2 : Sv) : Sv := fun ρ => match s ρ with
  | some (.next, ρ1) => s2 ρ1
  | r => r
theorem EndOk.next_of {H0 F2 H2 : Hp} {D : Ends} {σ2 : L2.St} {fl : Fl} {N : L2.St → Hp → Prop} (h : fl ≠ .next) (e : EndOk K H0 D F2 H2 σ2 fl) : EndOk K H0 { D with nx := N } F2 H2 σ2 fl := by
  cases fl with
  | next => exact absurd rfl h
  | brk => exact e
  | cont => exact e
  | ret v => exact e
theorem ss_seq (h : SS K w ts s) (h2 : SS K w us s2) : SS K w (tSeq ts us) (sSeq s s2) := fun ρ fl ρ' he F0 H0 m F H σ S D q => by
  unfold sSeq at he
  split at he
  · rename_i ρ1 e1
    exact h ρ .next ρ1 e1 _ _ _ _ _ _ S { D with nx := us D } fun F2 H2 σ2 f S2 k => h2 ρ1 fl ρ' he _ _ _ _ _ _ S2 D fun F3 H3 σ3 f2 S3 k2 => q F3 H3 σ3 (f.trans f2) S3 (k.trans k2)
  · rename_i r hn
    refine h ρ fl ρ' he _ _ _ _ _ _ S { D with nx := us D } fun F2 H2 σ2 f S2 k => (q F2 H2 σ2 f S2 k).next_of fun z => ?_
    subst z
    exact hn ρ' he
/-- a slot is given a new thing -/
theorem Kf.put {σ : L2.St} {ρ : Sts} {i : Nat} {o : Option V} {s : Sl} (h : s.giv = false) : Kf σ (σ.set i o) ρ (ρ.set i s) := fun j xs e => by
  by_cases z : i = j
  · subst z
    have l : i < ρ.length := by
      have := (List.getElem?_eq_some_iff.mp e).1
      rw [List.length_set] at this
      exact this
    rw [List.getElem?_set_self l] at e
    cases e
    cases h
  · rw [List.getElem?_set_ne z] at e
    exact ⟨List.getElem?_set_ne z, xs, e⟩
theorem Sg.setD2 {F0 H0 F H : Hp} {m : Addr → Prop} {σ : L2.St} {ρ : Sts} (S : Sg K w F0 H0 m F H σ ρ) (i : Nat) {v : V} {x : PD} (h : Dp K F v x) : Sg K w F0 H0 m F H (σ.set i (some v)) (ρ.set i (.d x)) := by
  show Sig K w F0 H0 m F H _ (stsTo w _)
  rw [sts_set]
  exact Sig.setD S i h
/-- a new list gets a name -/
theorem Sg.setN2 {F0 H0 F H : Hp} {m : Addr → Prop} {σ : L2.St} {ρ : Sts} (S : Sg K w F0 H0 m F H σ ρ) (i : Nat) {p : Addr} {vs : List V} {xs : List PD} (f : F p = none) (e : H p = some (.lst vs)) (d : DpAll K F vs xs) (n0 : H0 p = none) (no : ¬ Ow σ ρ p) :
    Sg K w F0 H0 m F H (σ.set i (some (.ref p))) (ρ.set i (.own true xs)) := by
  show Sig K w F0 H0 m F H _ (stsTo w _)
  rw [sts_set]
  refine Sig.setM S i (s := .own true xs) ⟨p, vs, rfl, f, e, d⟩ rfl ⟨fun _ => n0, fun z => by cases z⟩ fun j sj ij ej mj eq => ?_
  obtain ⟨s, e1, rfl⟩ := sts_of ej
  exact no ⟨j, s, e1, by rw [← to_mt w]; exact mj, eq⟩
/-- x = e -/
def sSet (i : Nat) (e : Ev) : Sv := fun ρ => match e ρ with
  | some (.d x, ρ1) => some (.next, ρ1.set i (.d x))
  | some (.new xs, ρ1) => some (.next, ρ1.set i (.own true xs))
  | some (.al j, ρ1) => match ρ1[j]? with
    | some (.d x) => some (.next, ρ1.set i (.d x))
    | some (.own true xs) => some (.next, (ρ1.set j (.d (.list xs))).set i (.d (.list xs)))
    | _ => none
  | none => none
theorem ss_set {i : Nat} (h : SE K w te e) : SS K w (tAsg te (gName i)) (sSet i e) := fun ρ fl ρ' he F0 H0 m F H σ S D q => by
  unfold sSet at he
  split at he
  · rename_i x ρ1 e1
    cases he
    exact h ρ _ ρ1 e1 _ _ _ _ _ _ S _ fun u F2 H2 g S2 o => q F2 H2 _ g.ff (S2.setD2 i o) (g.kf.trans (.put rfl))
  · rename_i xs ρ1 e1
    cases he
    refine h ρ _ ρ1 e1 _ _ _ _ _ _ S _ fun u F2 H2 g S2 o => ?_
    obtain ⟨p, vs, rfl, f, n, e, d⟩ := o
    exact q F2 H2 _ g.ff (S2.setN2 i f e d (S.old n) fun o => (S.live (g.sub.ow o)).2 n) (g.kf.trans (.put rfl))
  · rename_i j ρ1 e1
    split at he
    · rename_i x hj
      cases he
      refine h ρ _ ρ1 e1 _ _ _ _ _ _ S _ fun u F2 H2 g S2 o => ?_
      obtain ⟨v', e2, r⟩ := S2.var (sts_at (w := w) (s := .d x) hj)
      have o : σ[j]? = some (some u) := o
      rw [o] at e2
      cases e2
      exact q F2 H2 _ g.ff (S2.setD2 i r) (g.kf.trans (.put rfl))
    · rename_i xs hj
      cases he
      refine h ρ _ ρ1 e1 _ _ _ _ _ _ S _ fun u F2 H2 g S2 o => ?_
      obtain ⟨F3, u', e2, dp, g3, S3⟩ := S2.frzS hj
      have o : σ[j]? = some (some u) := o
      rw [o] at e2
      cases e2
      exact q F3 H2 _ (g.ff.trans g3.ff) (S3.setD2 i dp) ((g.trans g3).kf.trans (.put rfl))
    · cases he
  · cases he
def sExpr (e : Ev) : Sv := fun ρ => (e ρ).map fun r => (.next, r.2)
theorem ss_expr (h : SE K w te e) : SS K w (tDrop te) (sExpr e) := fun ρ fl ρ' he F0 H0 m F H σ S D q => by
  unfold sExpr at he
  cases e1 : e ρ with
  | none => rw [e1] at he; cases he
  | some r =>
    obtain ⟨v, ρ1⟩ := r
    rw [e1] at he
    cases he
    exact h ρ v _ e1 _ _ _ _ _ _ S _ fun u F2 H2 g S2 o => q F2 H2 σ g.ff S2 g.kf
def sRet (e : Ev) : Sv := fun ρ => match e ρ with
  | some (.d x, ρ1) => some (.ret (.d x), ρ1)
  | some (.new xs, ρ1) => some (.ret (.new xs), ρ1)
  | some (.al j, ρ1) => match ρ1[j]? with
    | some (.d x) => some (.ret (.d x), ρ1)
    | some (.own true xs) => some (.ret (.new xs), ρ1)
    | _ => none
  | none => none
theorem ss_ret (h : SE K w te e) : SS K w (tRet te) (sRet e) := fun ρ fl ρ' he F0 H0 m F H σ S D q => by
  unfold sRet at he
  split at he
  · rename_i x ρ1 e1
    cases he
    exact h ρ _ _ e1 _ _ _ _ _ _ S _ fun u F2 H2 g S2 o => q F2 H2 σ g.ff S2 g.kf u o
  · rename_i xs ρ1 e1
    cases he
    refine h ρ _ _ e1 _ _ _ _ _ _ S _ fun u F2 H2 g S2 o => q F2 H2 σ g.ff S2 g.kf u ?_
    obtain ⟨p, vs, rfl, f, n, e, d⟩ := o
    exact ⟨p, vs, rfl, f, S.old n, e, d⟩
  · rename_i j ρ1 e1
    split at he
    · rename_i x hj
      cases he
      refine h ρ _ _ e1 _ _ _ _ _ _ S _ fun u F2 H2 g S2 o => q F2 H2 σ g.ff S2 g.kf u ?_
      obtain ⟨v', e2, r⟩ := S2.var (sts_at (w := w) (s := .d x) hj)
      have o : σ[j]? = some (some u) := o
      rw [o] at e2
      cases e2
      exact r
    · rename_i xs hj
      cases he
      refine h ρ _ _ e1 _ _ _ _ _ _ S _ fun u F2 H2 g S2 o => q F2 H2 σ g.ff S2 g.kf u ?_
      have hj' := sts_at (w := w) hj
      obtain ⟨p, vs, e2, f, e, d⟩ := S2.own hj'
      have o : σ[j]? = some (some u) := o
      rw [o] at e2
      cases e2
      exact ⟨p, vs, rfl, f, (S2.fr j _ p hj' rfl o).1 rfl, e, d⟩
    · cases he
  · cases he
def sRetN : Sv := fun ρ => some (.ret (.d .none), ρ)
theorem ss_retN : SS K w tRetN sRetN := fun ρ fl ρ' he F0 H0 m F H σ S D q => by
  cases he
  exact q F H σ (Same.refl F) S (.refl _ _) .non Dp.non
def sIf (t : Tv) (s s2 : Sv) : Sv := fun ρ => match t ρ with
  | none => none
  | some (true, ρ1) => s ρ1
  | some (false, ρ1) => s2 ρ1
theorem ss_if (ht : ST K w tt t) (h : SS K w ts s) (h2 : SS K w us s2) : SS K w (tIfS tt ts us) (sIf t s s2) := fun ρ fl ρ' he F0 H0 m F H σ S D q => by
  unfold sIf at he
  split at he
  · cases he
  · rename_i ρ1 e1
    refine ht ρ true ρ1 e1 _ _ _ _ _ _ S _ fun F2 H2 g S2 => ?_
    rw [if_pos rfl]
    exact h ρ1 fl ρ' he _ _ _ _ _ _ S2 D fun F3 H3 σ3 f S3 k => q F3 H3 σ3 (g.ff.trans f) S3 (g.kf.trans k)
  · rename_i ρ1 e1
    refine ht ρ false ρ1 e1 _ _ _ _ _ _ S _ fun F2 H2 g S2 => ?_
    rw [if_neg Bool.false_ne_true]
    exact h2 ρ1 fl ρ' he _ _ _ _ _ _ S2 D fun F3 H3 σ3 f S3 k => q F3 H3 σ3 (g.ff.trans f) S3 (g.kf.trans k)
/-! targets that may change a list -/
def SG (K : PySem.W.Frag) (w : World) (g : TG) (gv : Gv) : Prop := ∀ ρ x ρ', gv x ρ = some ρ' → ∀ F0 H0 m F H σ v, Sg K w F0 H0 m F H σ ρ → Dp K F v x → ∀ Q : L2.St → Hp → Prop,
  (∀ F2 H2 σ2, Same F F2 → Sg K w F0 H0 m F2 H2 σ2 ρ' → Kf σ σ2 ρ ρ' → Q σ2 H2) → g v σ H Q
def SGs (K : PySem.W.Frag) (w : World) (g : TGs) (gv : Gvs) : Prop := ∀ ρ xs ρ', gv xs ρ = some ρ' → ∀ F0 H0 m F H σ vs, Sg K w F0 H0 m F H σ ρ → DpAll K F vs xs → ∀ Q : L2.St → Hp → Prop,
  (∀ F2 H2 σ2, Same F F2 → Sg K w F0 H0 m F2 H2 σ2 ρ' → Kf σ σ2 ρ ρ' → Q σ2 H2) → g vs σ H Q
theorem sg_name {i : Nat} : SG K w (gName i) (gvName i) := fun ρ x ρ' h F0 H0 m F H σ v S d Q q => by
  cases h
  exact q F H _ (Same.refl F) (S.setD2 i d) (.put rfl)
theorem sgs_nil : SGs K w gNil gvsNil := fun ρ xs ρ' h F0 H0 m F H σ vs S d Q q => by
  unfold gvsNil at h
  split at h
  · cases h
    cases d
    exact ⟨rfl, q F H σ (Same.refl F) S (.refl _ _)⟩
  · cases h
theorem sgs_cons {gv : Gv} {gvs : Gvs} (h : SG K w g gv) (h2 : SGs K w gs gvs) : SGs K w (gCons g gs) (gvsCons gv gvs) := fun ρ xs ρ' e F0 H0 m F H σ vs S d Q q => by
  unfold gvsCons at e
  split at e
  · cases e
  · split at e
    · cases e
    · rename_i x xs ρ1 e1
      cases d with
      | cons d1 d2 => exact ⟨_, _, rfl, h _ _ _ e1 _ _ _ _ _ _ _ S d1 _ fun F2 H2 σ2 f S2 k => h2 _ _ _ e _ _ _ _ _ _ _ S2 (da_up f _ _ d2) _ fun F3 H3 σ3 f2 S3 k2 => q F3 H3 σ3 (f.trans f2) S3 (k.trans k2)⟩
theorem sg_tup {n : Nat} {gvs : Gvs} (h : SGs K w gs gvs) : SG K w (gTup K n gs) (gvTup n gvs) := fun ρ x ρ' e F0 H0 m F H σ v S d Q q => by
  unfold gvTup at e
  split at e
  · split at e
    · rename_i l
      obtain ⟨a, xs, rfl, hs, hd⟩ := dp_tuple d
      exact ⟨a, xs, rfl, sqt_up S.fh hs, (da_len hd).trans l, h _ _ _ e _ _ _ _ _ _ _ S hd Q q⟩
    · cases e
  · cases e
/-- a list of one's own is changed -/
theorem Sg.chgO {F0 H0 F H : Hp} {m : Addr → Prop} {σ : L2.St} {ρ : Sts} {i : Nat} {b : Bool} {xs ys : List PD} {p : Addr} {vs us : List V} (S : Sg K w F0 H0 m F H σ ρ) (hi : ρ[i]? = some (.own b xs)) (hp : σ[i]? = some (some (.ref p))) (f : F p = none) (e : H p = some (.lst vs)) (d : DpAll K F us ys) :
    Sg K w F0 H0 m F (upd H p (.lst us)) σ (ρ.set i (.own b ys)) := by
  show Sig K w F0 H0 m F _ σ (stsTo w _)
  rw [sts_set]
  exact Sig.chg S (s := .own b xs) (s' := .own b ys) (sts_at (w := w) hi) rfl hp f (by rw [e]; exact fun z => nomatch z) ⟨p, us, rfl, f, upd_same, d⟩ rfl rfl
theorem kf_own {σ : L2.St} {ρ : Sts} {i : Nat} {b : Bool} {xs ys : List PD} (hi : ρ[i]? = some (.own b xs)) : Kf σ σ ρ (ρ.set i (.own b ys)) := fun j zs h => by
  refine ⟨rfl, ?_⟩
  by_cases z : i = j
  · subst z
    rw [List.getElem?_set_self (List.getElem?_eq_some_iff.mp hi).1] at h
    cases h
    exact ⟨xs, hi⟩
  · rw [List.getElem?_set_ne z] at h
    exact ⟨zs, h⟩
/-- xs[k] = .. -/
def gvSub (i : Nat) (k : Ev) : Gv := fun x ρ => match ρ[i]?, eSee k ρ with
  | some (.own _ _), some (.int j, ρ1) => match ρ1[i]? with
    | some (.own b xs) => (ixN xs.length j).map fun n => ρ1.set i (.own b (xs.set n x))
    | _ => none
  | _, _ => none
theorem sg_sub {i : Nat} (hk : SE K w ta a) : SG K w (gSub (tVar i) ta rSetL) (gvSub i a) := fun ρ x ρ' h F0 H0 m F H σ v S d Q q => by
  unfold gvSub at h
  split at h
  · rename_i b0 xs0 j ρ1 hi0 e1
    split at h
    · rename_i b xs hi
      cases e2 : ixN xs.length j with
      | none => rw [e2] at h; cases h
      | some n =>
        rw [e2] at h
        cases h
        obtain ⟨p, _, e3, _⟩ := S.own (sts_at (w := w) hi0)
        refine ⟨_, e3, se_see hk e1 S fun u F2 H2 g S2 o => ?_⟩
        obtain ⟨p', vs, e4, f, hp, dd⟩ := S2.own (sts_at (w := w) hi)
        rw [e3] at e4
        cases e4
        exact ⟨p, vs, j, n, rfl, rdb_int o, hp, by rw [da_len dd]; exact e2, q F2 _ σ g.ff (S2.chgO hi e3 f hp (da_set (dp_up g.ff _ _ d) n dd)) (g.kf.trans (kf_own hi))⟩
    · cases h
  · cases h
/-- g = e, the value kept -/
def sAsg (gv : Gv) (e : Ev) : Sv := fun ρ => match eDat e ρ with
  | some (.d x, ρ1) => (gv x ρ1).map fun r => (.next, r)
  | _ => none
theorem ss_asg {gv : Gv} (h : SE K w te e) (hg : SG K w g gv) : SS K w (tAsg te g) (sAsg gv e) := fun ρ fl ρ' he F0 H0 m F H σ S D q => by
  unfold sAsg at he
  split at he
  · rename_i x ρ1 e1
    cases e2 : gv x ρ1 with
    | none => rw [e2] at he; cases he
    | some ρ2 =>
      rw [e2] at he
      cases he
      exact se_dat h ρ _ ρ1 e1 _ _ _ _ _ _ S _ fun u F2 H2 g2 S2 o => hg ρ1 x _ e2 _ _ _ _ _ _ u S2 o _ fun F3 H3 σ3 f S3 k => q F3 H3 σ3 (g2.ff.trans f) S3 (g2.kf.trans k)
  · cases he
/-- a, b = e1, e2 -/
def sPar (i j : Nat) (as : Av) : Sv := fun ρ => match aDs as ρ with
  | some ([x, y], ρ1) => some (.next, (ρ1.set i (.d x)).set j (.d y))
  | _ => none
theorem ss_par {i j : Nat} (h : SA K w tz as) : SS K w (tPar i j tz) (sPar i j as) := fun ρ fl ρ' he F0 H0 m F H σ S D q => by
  unfold sPar at he
  split at he
  · rename_i x y ρ1 e1
    cases he
    refine sa_ds h e1 S fun us F2 H2 g2 S2 d => ?_
    obtain ⟨v, u, rfl, d1, d2⟩ := da2 d
    exact ⟨v, u, rfl, q F2 H2 _ g2.ff ((S2.setD2 i d1).setD2 j d2) ((g2.kf.trans (.put rfl)).trans (.put rfl))⟩
  · cases he
/-- x += e, ints -/
def sAugI (i : Nat) (f : Int → Int → Int) (e : Ev) : Sv := fun ρ => match ρ[i]?, eSee e ρ with
  | some (.d (.int x)), some (.int y, ρ1) => some (.next, ρ1.set i (.d (.int (f x y))))
  | _, _ => none
theorem ss_augI {i : Nat} {f : Int → Int → Int} (h : SE K w te e) : SS K w (tAug i te (ipI f)) (sAugI i f e) := fun ρ fl ρ' he F0 H0 m F H σ S D q => by
  unfold sAugI at he
  split at he
  · rename_i x y ρ1 hi e1
    cases he
    obtain ⟨v, e2, r⟩ := S.var (sts_at (w := w) (s := .d (.int x)) hi)
    refine ⟨v, e2, se_see h e1 S fun u F2 H2 g2 S2 o => ⟨x, y, dp_int r, rdb_int o, q F2 H2 _ g2.ff (S2.setD2 i (.int _)) (g2.kf.trans (.put rfl))⟩⟩
  · cases he
/-! the methods of a list that stand as statements -/
def sAppend (i : Nat) (e : Ev) : Sv := fun ρ => match ρ[i]?, eDat e ρ with
  | some (.own _ _), some (.d x, ρ1) => match ρ1[i]? with
    | some (.own b xs) => if xs.length < 100000 then some (.next, ρ1.set i (.own b (xs ++ [x]))) else none
    | _ => none
  | _, _ => none
theorem ss_append {i : Nat} (h : SE K w te e) : SS K w (tDrop (tBM K "list" rAppend (tVar i) (tCons te tNil))) (sAppend i e) := fun ρ fl ρ' he F0 H0 m F H σ S D q => by
  unfold sAppend at he
  split at he
  · rename_i b0 xs0 x ρ1 hi0 e1
    split at he
    · rename_i b xs hi
      split at he
      · rename_i l
        cases he
        obtain ⟨p, vs0, e3, _, h3, _⟩ := S.own (sts_at (w := w) hi0)
        refine ⟨_, e3, .inl ⟨rfl, vs0, .inl (.inl h3)⟩, se_dat h ρ _ _ e1 _ _ _ _ _ _ S _ fun u F2 H2 g2 S2 o => ?_⟩
        obtain ⟨p', vs, e4, f, hp, dd⟩ := S2.own (sts_at (w := w) hi)
        rw [e3] at e4
        cases e4
        exact ⟨p, vs, u, rfl, rfl, hp, by rw [da_len dd]; exact lt_line l, q F2 _ σ g2.ff (S2.chgO hi e3 f hp (da_app dd (.cons o .nil))) (g2.kf.trans (kf_own hi))⟩
      · cases he
    · cases he
  · cases he
def sReverse (i : Nat) : Sv := fun ρ => match ρ[i]? with
  | some (.own b xs) => some (.next, ρ.set i (.own b xs.reverse))
  | _ => none
theorem ss_reverse {i : Nat} : SS K w (tDrop (tBM0 K "list" rReverse (tVar i))) (sReverse i) := fun ρ fl ρ' he F0 H0 m F H σ S D q => by
  unfold sReverse at he
  split at he
  · rename_i b xs hi
    cases he
    obtain ⟨p, vs, e3, f, hp, dd⟩ := S.own (sts_at (w := w) hi)
    exact ⟨_, e3, .inl ⟨rfl, vs, .inl (.inl hp)⟩, p, vs, rfl, rfl, hp, q F _ σ (Same.refl F) (S.chgO hi e3 f hp (da_rev dd)) (kf_own hi)⟩
  · cases he
/-! ## loops -/
def forL (gv : Gv) (s : Sv) : List PD → Sts → Option (Fl × Sts)
  | [], ρ => some (.next, ρ)
  | d :: ds, ρ => match gv d ρ with
    | none => none
    | some ρ1 => match s ρ1 with
      | none => none
      | some (.next, ρ2) => forL gv s ds ρ2
      | some (.cont, ρ2) => forL gv s ds ρ2
      | some (.brk, ρ2) => some (.next, ρ2)
      | some (.ret v, ρ2) => some (.ret v, ρ2)
def sFor (it : Iv) (gv : Gv) (s : Sv) : Sv := fun ρ => match it ρ with
  | none => none
  | some (ds, ρ1) => forL gv s ds ρ1
theorem ss_for {it : Iv} {gv : Gv} (hi : SI K w wi it) (hg : SG K w g gv) (hs : SS K w ts s) : SS K w (tFor wi g ts) (sFor it gv s) := fun ρ fl ρ' he F0 H0 m F H σ S D q => by
  unfold sFor at he
  split at he
  · cases he
  rename_i ds ρ1 e1
  refine hi ρ ds ρ1 e1 _ _ _ _ _ _ S _ fun J F1 H1 g1 S1 Y => ?_
  refine ⟨fun i n σ' H' => n = ds.length - i ∧ i ≤ ds.length ∧ ∃ F' ρi, Same F1 F' ∧ Sg K w F0 H0 m F' H' σ' ρi ∧ Kf σ σ' ρ ρi ∧ forL gv s (ds.drop i) ρi = some (fl, ρ'), ⟨ds.length, by omega, Nat.zero_le _, F1, ρ1, Same.refl F1, S1, g1.kf, he⟩, ?_⟩
  rintro i n σ' H' ⟨rfl, li, F', ρi, f1, Si, ki, e2⟩
  have y := Y F' H' f1 Si.fh i
  by_cases z : i < ds.length
  · refine .inr ?_
    have ex : ds[i]? = some ds[i] := List.getElem?_eq_getElem z
    obtain ⟨y1, y2⟩ := y.1 _ ex
    have ed : ds.drop i = ds[i] :: ds.drop (i + 1) := List.drop_eq_getElem_cons z
    rw [ed] at e2
    refine ⟨y1, fun σ2 H3 => ∃ F3 ρ3, Same F1 F3 ∧ Sg K w F0 H0 m F3 H3 σ2 ρ3 ∧ Kf σ σ2 ρ ρ3 ∧ forL gv s (ds.drop (i + 1)) ρ3 = some (fl, ρ'), fun σ2 H3 ⟨F3, ρ3, b1, b2, b3, b4⟩ => ⟨ds.length - (i + 1), by omega, rfl, z, F3, ρ3, b1, b2, b3, b4⟩, fun x H3 yy => ?_⟩
    obtain ⟨F3, s3, d3⟩ := y2 x H3 yy
    unfold forL at e2
    split at e2
    · cases e2
    rename_i ρa ea
    refine hg ρi _ ρa ea _ _ _ _ _ _ x (Si.up0 s3) d3 _ fun F4 H4 σ4 f4 S4 k4 => ?_
    have f14 := (f1.trans s3.ff).trans f4
    have k04 := ki.trans k4
    split at e2
    · cases e2
    · rename_i ρb eb
      exact hs ρa _ ρb eb _ _ _ _ _ _ S4 _ fun F5 H5 σ5 f5 S5 k5 => ⟨F5, ρb, f14.trans f5, S5, k04.trans k5, e2⟩
    · rename_i ρb eb
      exact hs ρa _ ρb eb _ _ _ _ _ _ S4 _ fun F5 H5 σ5 f5 S5 k5 => ⟨F5, ρb, f14.trans f5, S5, k04.trans k5, e2⟩
    · rename_i ρb eb
      cases e2
      exact hs ρa _ _ eb _ _ _ _ _ _ S4 _ fun F5 H5 σ5 f5 S5 k5 => q F5 H5 σ5 ((g1.ff.trans f14).trans f5) S5 (k04.trans k5)
    · rename_i v ρb eb
      cases e2
      exact hs ρa _ _ eb _ _ _ _ _ _ S4 _ fun F5 H5 σ5 f5 S5 k5 => q F5 H5 σ5 ((g1.ff.trans f14).trans f5) S5 (k04.trans k5)
  · refine .inl ⟨y.2 (by omega), ?_⟩
    rw [List.drop_of_length_le (by omega)] at e2
    cases e2
    exact q F' H' σ' (g1.ff.trans f1) Si ki
def whileL (t : Tv) (s : Sv) : Nat → Sts → Option (Fl × Sts)
  | 0, _ => none
  | n + 1, ρ => match t ρ with
    | none => none
    | some (false, ρ1) => some (.next, ρ1)
    | some (true, ρ1) => match s ρ1 with
      | none => none
      | some (.next, ρ2) => whileL t s n ρ2
      | some (.cont, ρ2) => whileL t s n ρ2
      | some (.brk, ρ2) => some (.next, ρ2)
      | some (.ret v, ρ2) => some (.ret v, ρ2)
theorem ss_while {n : Nat} (ht : ST K w tt t) (hs : SS K w ts s) : SS K w (tWhile tt ts) (whileL t s n) := fun ρ fl ρ' he F0 H0 m F H σ S D q => by
  refine ⟨fun n σ' H' => ∃ F' ρi, Same F F' ∧ Sg K w F0 H0 m F' H' σ' ρi ∧ Kf σ σ' ρ ρi ∧ whileL t s n ρi = some (fl, ρ'), ⟨n, F, ρ, Same.refl F, S, .refl _ _, he⟩, ?_⟩
  rintro n σ' H' ⟨F', ρi, f1, Si, ki, e2⟩
  cases n with
  | zero => cases e2
  | succ n =>
    unfold whileL at e2
    split at e2
    · cases e2
    · rename_i ρa ea
      cases e2
      refine ht ρi false _ ea _ _ _ _ _ _ Si _ fun F2 H2 g S2 => ?_
      rw [if_neg Bool.false_ne_true]
      exact q F2 H2 σ' (f1.trans g.ff) S2 (ki.trans g.kf)
    · rename_i ρa ea
      refine ht ρi true ρa ea _ _ _ _ _ _ Si _ fun F2 H2 g S2 => ?_
      rw [if_pos rfl]
      refine ⟨fun σ2 H3 => ∃ F3 ρ3, Same F F3 ∧ Sg K w F0 H0 m F3 H3 σ2 ρ3 ∧ Kf σ σ2 ρ ρ3 ∧ whileL t s n ρ3 = some (fl, ρ'), fun σ2 H3 h => ⟨n, Nat.lt_succ_self n, h⟩, ?_⟩
      have f12 := f1.trans g.ff
      have k2 := ki.trans g.kf
      split at e2
      · cases e2
      · rename_i ρb eb
        exact hs ρa _ ρb eb _ _ _ _ _ _ S2 _ fun F5 H5 σ5 f5 S5 k5 => ⟨F5, ρb, f12.trans f5, S5, k2.trans k5, e2⟩
      · rename_i ρb eb
        exact hs ρa _ ρb eb _ _ _ _ _ _ S2 _ fun F5 H5 σ5 f5 S5 k5 => ⟨F5, ρb, f12.trans f5, S5, k2.trans k5, e2⟩
      · rename_i ρb eb
        cases e2
        exact hs ρa _ _ eb _ _ _ _ _ _ S2 _ fun F5 H5 σ5 f5 S5 k5 => q F5 H5 σ5 (f12.trans f5) S5 (k2.trans k5)
      · rename_i v ρb eb
        cases e2
        exact hs ρa _ _ eb _ _ _ _ _ _ S2 _ fun F5 H5 σ5 f5 S5 k5 => q F5 H5 σ5 (f12.trans f5) S5 (k2.trans k5)
end
end MU

namespace MU
open PySem PySem.Spec L2
/-! ## defs: data in, data out; lists of the caller's may change -/
inductive Ar where
  | d (x : PD)
  | m (xs : List PD)
abbrev Fn := List Ar → Option (Vl × List (List PD))
inductive AOk (K : PySem.W.Frag) (F H : Hp) : List V → List Ar → Prop
  | nil : AOk K F H [] []
  | d {u us x as} : Dp K F u x → AOk K F H us as → AOk K F H (u :: us) (.d x :: as)
  | m {p us ws xs as} : F p = none → H p = some (.lst ws) → DpAll K F ws xs → AOk K F H us as → AOk K F H (.ref p :: us) (.m xs :: as)
inductive MOk (K : PySem.W.Frag) (F H : Hp) : List V → List Ar → List (List PD) → Prop
  | nil : MOk K F H [] [] []
  | d {u us x as ms} : MOk K F H us as ms → MOk K F H (u :: us) (.d x :: as) ms
  | m {p us ws xs ys as ms} : F p = none → H p = some (.lst ws) → DpAll K F ws ys → MOk K F H us as ms → MOk K F H (.ref p :: us) (.m xs :: as) (ys :: ms)
def MAd (us : List V) (as : List Ar) (a : Addr) : Prop := ∃ (i : Nat) (xs : List PD), as[i]? = some (.m xs) ∧ us[i]? = some (.ref a)
def Dst (us : List V) (as : List Ar) : Prop := ∀ (i j : Nat) (xs ys : List PD) (p : Addr), i ≠ j → as[i]? = some (.m xs) → as[j]? = some (.m ys) → us[i]? = some (.ref p) → us[j]? ≠ some (.ref p)
def spF (K : PySem.W.Frag) (np : Nat) (f : Fn) : Sp := fun vs H Q _ => vs.length = np ∧ ∃ F ars v ms, f ars = some (v, ms) ∧ Fz F H ∧ AOk K F H vs ars ∧ Dst vs ars ∧
  ∀ u F2 H2, Stp (MAd vs ars) F H F2 H2 → MOk K F2 H2 vs ars ms → VOk K [] H F2 H2 u v → Q u H2
theorem len_F {K : PySem.W.Frag} {np : Nat} {f : Fn} : ∀ vs H Q E, spF K np f vs H Q E → vs.length = np := fun _ _ _ _ h => h.1
def slOf : Ar → Sl
  | .d x => .d x
  | .m xs => .own false xs
def startS (n : Nat) (ars : List Ar) : Sts := ars.map slOf ++ List.replicate (n - ars.length) .emp
def mutS : List Ar → Sts → Option (List (List PD))
  | [], _ => some []
  | .d _ :: as, _ :: ρ => mutS as ρ
  | .m _ :: as, .own false ys :: ρ => (mutS as ρ).map (ys :: ·)
  | _, _ => none
def fnOf (n np : Nat) (s : Sv) : Fn := fun ars => if ars.length = np then (match s (startS n ars) with
  | some (.ret v, ρ) => (mutS ars ρ).map (v, ·)
  | some (.next, ρ) => (mutS ars ρ).map (.d .none, ·)
  | _ => none) else none
section
variable {K : PySem.W.Frag} {w : World} {F H F2 H2 : Hp}
theorem aok_len : ∀ {us : List V} {as : List Ar}, AOk K F H us as → us.length = as.length
  | _, _, .nil => rfl
  | _, _, .d _ t => congrArg (· + 1) (aok_len t)
  | _, _, .m _ _ _ t => congrArg (· + 1) (aok_len t)
theorem aok_d : ∀ {us : List V} {as : List Ar} {i : Nat} {x : PD}, AOk K F H us as → as[i]? = some (.d x) → ∃ u, us[i]? = some u ∧ Dp K F u x
  | _, _, _, _, .nil, e => by simp at e
  | _, _, 0, _, .d r _, e => by cases e; exact ⟨_, rfl, r⟩
  | _, _, 0, _, .m _ _ _ _, e => by cases e
  | _, _, i + 1, _, .d _ t, e => by obtain ⟨u, h1, h2⟩ := aok_d (i := i) t (by simpa using e); exact ⟨u, by simpa using h1, h2⟩
  | _, _, i + 1, _, .m _ _ _ t, e => by obtain ⟨u, h1, h2⟩ := aok_d (i := i) t (by simpa using e); exact ⟨u, by simpa using h1, h2⟩
theorem aok_m : ∀ {us : List V} {as : List Ar} {i : Nat} {xs : List PD}, AOk K F H us as → as[i]? = some (.m xs) → ∃ p ws, us[i]? = some (.ref p) ∧ F p = none ∧ H p = some (.lst ws) ∧ DpAll K F ws xs
  | _, _, _, _, .nil, e => by simp at e
  | _, _, 0, _, .d _ _, e => by cases e
  | _, _, 0, _, .m a b c _, e => by cases e; exact ⟨_, _, rfl, a, b, c⟩
  | _, _, i + 1, _, .d _ t, e => by obtain ⟨p, ws, h1, h2⟩ := aok_m (i := i) t (by simpa using e); exact ⟨p, ws, by simpa using h1, h2⟩
  | _, _, i + 1, _, .m _ _ _ t, e => by obtain ⟨p, ws, h1, h2⟩ := aok_m (i := i) t (by simpa using e); exact ⟨p, ws, by simpa using h1, h2⟩
theorem startS_at {n : Nat} {ars : List Ar} {i : Nat} {s : Sl} (h : (startS n ars)[i]? = some s) : (∃ a, ars[i]? = some a ∧ s = slOf a) ∨ s = .emp := by
  unfold startS at h
  by_cases q : i < ars.length
  · rw [List.getElem?_append_left (by rw [List.length_map]; exact q), List.getElem?_map, List.getElem?_eq_getElem q] at h
    exact .inl ⟨ars[i], List.getElem?_eq_getElem q, (Option.some.inj h).symm⟩
  · rw [List.getElem?_append_right (by rw [List.length_map]; omega)] at h
    exact .inr (List.eq_of_mem_replicate (List.mem_of_getElem? h))
theorem start_at {N : List Str} {vs : List V} {i : Nat} {u : V} (h : vs[i]? = some u) : (L2.start N vs)[i]? = some (some u) := by
  unfold L2.start
  rw [List.getElem?_append_left (by rw [List.length_map]; exact (List.getElem?_eq_some_iff.mp h).1), List.getElem?_map, h]
  rfl
/-- where a def begins -/
theorem start_sg {N : List Str} {vs : List V} {ars : List Ar} (z : Fz F H) (h : AOk K F H vs ars) (ds : Dst vs ars) : Sg K w F H (MAd vs ars) F H (L2.start N vs) (startS N.length ars) := by
  have l := aok_len h
  have mtc : ∀ {a : Ar}, (slOf a).mt = true → ∃ xs, a = .m xs := fun {a} m => by
    cases a with
    | d x => cases m
    | m xs => exact ⟨xs, rfl⟩
  have mtw : ∀ {s : Sl}, (s.to w).mt = true → s.mt = true := fun {s} h => by rw [to_mt] at h; exact h
  have at_ : ∀ (i : Nat) (s : Sl), (startS N.length ars)[i]? = some s → s.mt = true → ∃ xs p ws, ars[i]? = some (.m xs) ∧ s = .own false xs ∧ vs[i]? = some (.ref p) ∧ (L2.start N vs)[i]? = some (some (.ref p)) ∧ F p = none ∧ H p = some (.lst ws) ∧ DpAll K F ws xs := fun i s e m => by
    rcases startS_at e with ⟨a, e1, rfl⟩ | rfl
    · obtain ⟨xs, rfl⟩ := mtc m
      obtain ⟨p, ws, h1, h2, h3, h4⟩ := aok_m h e1
      exact ⟨xs, p, ws, e1, rfl, h1, start_at h1, h2, h3, h4⟩
    · cases m
  refine ⟨.refl z.s, ?_, fun i sl e => ?_, fun i j si sj u ij ei ej mi mj eu => ?_, fun i sl p e m ep => ?_, z.n⟩
  · rw [sts_len]
    unfold L2.start startS
    rw [List.length_append, List.length_append, List.length_map, List.length_map, List.length_replicate, List.length_replicate, l]
  · obtain ⟨s, e1, rfl⟩ := sts_of e
    rcases startS_at e1 with ⟨a, e2, rfl⟩ | rfl
    · cases a with
      | d x =>
        obtain ⟨u, h1, h2⟩ := aok_d h e2
        rw [start_at h1]
        exact ⟨u, rfl, h2⟩
      | m xs =>
        obtain ⟨p, ws, h1, h2, h3, h4⟩ := aok_m h e2
        rw [start_at h1]
        exact ⟨p, ws, rfl, h2, h3, h4⟩
    · exact trivial
  · obtain ⟨s1, e1, rfl⟩ := sts_of ei
    obtain ⟨s2, e2, rfl⟩ := sts_of ej
    obtain ⟨xs, p, _, a1, _, a3, a4, _⟩ := at_ i s1 e1 (mtw mi)
    obtain ⟨ys, p2, _, b1, _, b3, b4, _⟩ := at_ j s2 e2 (mtw mj)
    rw [a4] at eu
    cases eu
    rw [b4]
    intro q
    cases q
    exact ds i j xs ys p ij a1 b1 a3 b3
  · obtain ⟨s1, e1, rfl⟩ := sts_of e
    obtain ⟨xs, p1, _, a1, rfl, a3, a4, _⟩ := at_ i s1 e1 (mtw m)
    rw [a4] at ep
    cases ep
    exact ⟨fun q => (by cases q), fun _ => ⟨i, xs, a1, a3⟩⟩
theorem mutS_ok {K : PySem.W.Frag} {F2 H2 : Hp} : ∀ {us : List V} {ars : List Ar} {ρ : Sts} {ms : List (List PD)}, us.length = ars.length → (∀ (i : Nat) (xs ys : List PD), ars[i]? = some (.m xs) → ρ[i]? = some (.own false ys) → ∃ p ws, us[i]? = some (.ref p) ∧ F2 p = none ∧ H2 p = some (.lst ws) ∧ DpAll K F2 ws ys) → mutS ars ρ = some ms → MOk K F2 H2 us ars ms
  | [], [], _, _, _, _, e => by cases e; exact .nil
  | u :: us, .d x :: ars, [], _, _, _, e => by cases e
  | u :: us, .d x :: ars, s :: ρ, ms, l, h, e => .d (mutS_ok (by simpa using l) (fun i xs ys h1 h2 => h (i + 1) xs ys h1 h2) e)
  | u :: us, .m x :: ars, [], _, _, _, e => by cases e
  | u :: us, .m x :: ars, .own false zs :: ρ, ms, l, h, e => by
    have e' : (mutS ars ρ).map (zs :: ·) = some ms := e
    cases e1 : mutS ars ρ with
    | none => rw [e1] at e'; cases e'
    | some r =>
      rw [e1] at e'
      cases e'
      obtain ⟨p, ws, h1, h2, h3, h4⟩ := h 0 x zs rfl rfl
      cases h1
      exact .m h2 h3 h4 (mutS_ok (by simpa using l) (fun i xs ys h1 h2 => h (i + 1) xs ys h1 h2) e1)
  | u :: us, .m x :: ars, .own true zs :: ρ, ms, l, h, e => by cases e
  | u :: us, .m x :: ars, .emp :: ρ, ms, l, h, e => by cases e
  | u :: us, .m x :: ars, .d _ :: ρ, ms, l, h, e => by cases e
  | u :: us, .m x :: ars, .iset _ :: ρ, ms, l, h, e => by cases e
  | u :: us, .m x :: ars, .nset _ :: ρ, ms, l, h, e => by cases e
  | [], _ :: _, _, _, l, _, _ => by cases l
  | _ :: _, [], _, _, l, _, _ => by cases l
/-- a def's body keeps the def's promise -/
theorem ss_def {N : List Str} {np : Nat} {ts : TS} {s : Sv} {vs : List V} {Q : VK} {E : XK} (hs : SS K w ts s) (h : spF K np (fnOf N.length np s) vs H Q E) : ts { nx := fun _ H' => Q .non H', rt := Q } (L2.start N vs) H := by
  obtain ⟨lv, F, ars, v, ms, e, z, a, ds, q⟩ := h
  have l := aok_len a
  have S := start_sg (w := w) (N := N) z a ds
  unfold fnOf at e
  split at e
  rotate_left
  · cases e
  have fin : ∀ {fl : Fl} {ρ : Sts}, mutS ars ρ = some ms → ∀ (F2 H2 : Hp) (σ2 : L2.St), Sg K w F H (MAd vs ars) F2 H2 σ2 ρ → Kf (L2.start N vs) σ2 (startS N.length ars) ρ → ∀ u, VOk K [] H F2 H2 u v → Q u H2 := fun {fl ρ} em F2 H2 σ2 S2 kf u o => by
    refine q u F2 H2 S2.st (mutS_ok l (fun i xs ys h1 h2 => ?_) em) o
    obtain ⟨p, ws, a1, _⟩ := aok_m a h1
    obtain ⟨p2, ws2, b1, b2, b3, b4⟩ := S2.own (sts_at (w := w) h2)
    rw [(kf i ys h2).1, start_at a1] at b1
    cases b1
    exact ⟨p, ws2, a1, b2, b3, b4⟩
  split at e
  · rename_i v' ρ e1
    cases em : mutS ars ρ with
    | none => rw [em] at e; cases e
    | some ms' =>
      rw [em] at e
      cases e
      exact hs _ _ _ e1 _ _ _ _ _ _ S _ fun F2 H2 σ2 f S2 kf u o => fin (fl := .next) em F2 H2 σ2 S2 kf u o
  · rename_i ρ e1
    cases em : mutS ars ρ with
    | none => rw [em] at e; cases e
    | some ms' =>
      rw [em] at e
      cases e
      exact hs _ _ _ e1 _ _ _ _ _ _ S _ fun F2 H2 σ2 f S2 kf => fin (fl := .next) em F2 H2 σ2 S2 kf _ .non
  · cases e
end
end MU

namespace MU
open PySem PySem.Spec L2
/-! ## calls: an argument is read, or a list that the callee may change -/
inductive Xa where
  | r (v : Vl)
  | m (v : Vl)
def Xa.v : Xa → Vl
  | .r v => v
  | .m v => v
abbrev Xv := Sts → Option (List Xa × Sts)
def VX (P : V → Vl → Prop) (us : List V) (xs : List Xa) : Prop := VAll P us (xs.map Xa.v)
def SX (K : PySem.W.Frag) (w : World) (ta : TA) (a : Xv) : Prop := ∀ ρ vs ρ', a ρ = some (vs, ρ') → ∀ F0 H0 m F H σ, Sg K w F0 H0 m F H σ ρ → ∀ Q : List V → Hp → Prop,
  (∀ us F2 H2, Go σ ρ ρ' F H F2 H2 → Sg K w F0 H0 m F2 H2 σ ρ' → VX (VOk K σ H F2 H2) us vs → Q us H2) → ta σ H Q
def xNil : Xv := fun ρ => some ([], ρ)
def xR (e : Ev) (as : Xv) : Xv := fun ρ => match eRd e ρ with
  | none => none
  | some (v, ρ1) => (as ρ1).map fun r => (.r v :: r.1, r.2)
def xM (e : Ev) (as : Xv) : Xv := fun ρ => match e ρ with
  | none => none
  | some (v, ρ1) => (as ρ1).map fun r => (.m v :: r.1, r.2)
def arsOf (ρ : Sts) : List Xa → Option (List Ar)
  | [] => some []
  | .r v :: xs => match look ρ v, arsOf ρ xs with
    | some x, some as => some (.d x :: as)
    | _, _ => none
  | .m (.al j) :: xs => match ρ[j]?, arsOf ρ xs with
    | some (.own _ ys), some as => some (.m ys :: as)
    | _, _ => none
  | .m (.new ys) :: xs => (arsOf ρ xs).map (.m ys :: ·)
  | .m (.d _) :: _ => none
/-- the slots that are read though they may change -/
def dals (ρ : Sts) : List Xa → List Nat
  | [] => []
  | .r (.al j) :: xs => match ρ[j]? with
    | some (.own _ _) => j :: dals ρ xs
    | _ => dals ρ xs
  | _ :: xs => dals ρ xs
def mals : List Xa → List Nat
  | [] => []
  | .m (.al j) :: xs => j :: mals xs
  | _ :: xs => mals xs
def news : List Xa → Nat
  | [] => 0
  | .m (.new _) :: xs => news xs + 1
  | _ :: xs => news xs
def mprs : List Xa → List (List PD) → Option (List (Nat × List PD))
  | [], [] => some []
  | .r _ :: xs, ms => mprs xs ms
  | .m (.al j) :: xs, y :: ms => (mprs xs ms).map ((j, y) :: ·)
  | .m (.new _) :: xs, _ :: ms => mprs xs ms
  | _, _ => none
def putS : List (Nat × List PD) → Sts → Option Sts
  | [], ρ => some ρ
  | (j, ys) :: ps, ρ => match ρ[j]? with
    | some (.own b _) => putS ps (ρ.set j (.own b ys))
    | _ => none
def flatR (v : Vl) (ms : List (List PD)) : Bool := (match v with
  | .d x => flatD x
  | .new xs => xs.all flatD
  | .al _ => false) && ms.all (·.all flatD)
def callAt (f : Fn) (vs : List Xa) (ρ : Sts) : Option (Vl × Sts) := match arsOf ρ vs with
  | none => none
  | some ars => match f ars with
    | none => none
    | some (v, ms) => if (mals vs).Nodup ∧ (∀ j ∈ dals ρ vs, j ∉ mals vs) ∧ news vs ≤ 1 ∧ (dals ρ vs = [] ∨ flatR v ms = true) then (match mprs vs ms with
        | none => none
        | some ps => (putS ps ρ).map (v, ·)) else none
/-- these lists change no more -/
def frzA : List Nat → Sts → Option Sts
  | [], ρ => some ρ
  | j :: js, ρ => match ρ[j]? with
    | some (.own true xs) => frzA js (ρ.set j (.d (.list xs)))
    | some (.d _) => frzA js ρ
    | _ => none
def eCall (f : Fn) (xs : Xv) : Ev := fun ρ => match xs ρ with
  | none => none
  | some (vs, ρ1) => match callAt f vs ρ1 with
    | some r => some r
    | none => match frzA (dals ρ1 vs) ρ1 with
      | none => none
      | some ρ2 => callAt f vs ρ2
section
variable {K : PySem.W.Frag} {w : World} {te ta tb : TE} {a b e : Ev} {tz : TA} {as : Xv}
theorem sx_nil : SX K w tNil xNil := fun ρ vs ρ' he F0 H0 m F H σ S Q q => by cases he; exact q [] F H (.refl S.fh) S .nil
theorem VX.imp {P P' : V → Vl → Prop} {us : List V} {xs : List Xa} (o : VX P us xs) (h : ∀ u v, P u v → P' u v) : VX P' us xs := VAll.imp h o
theorem sx_r (h : SE K w te e) (hs : SX K w tz as) : SX K w (tCons te tz) (xR e as) := fun ρ vs ρ' he F0 H0 m F H σ S Q q => by
  unfold xR at he
  split at he
  · cases he
  · rename_i v ρ1 e1
    cases e2 : as ρ1 with
    | none => rw [e2] at he; cases he
    | some r =>
      obtain ⟨us, ρ2⟩ := r
      rw [e2] at he
      cases he
      refine se_rd h ρ v ρ1 e1 _ _ _ _ _ _ S _ fun u F2 H2 g S2 o => hs ρ1 us _ e2 _ _ _ _ _ _ S2 _ fun vs F3 H3 g2 S3 o2 => ?_
      exact q (u :: vs) F3 H3 (g.trans g2) S3 (.cons (o.up S g g2) (o2.imp fun _ _ z => z.fromG g))
theorem sx_m (h : SE K w te e) (hs : SX K w tz as) : SX K w (tCons te tz) (xM e as) := fun ρ vs ρ' he F0 H0 m F H σ S Q q => by
  unfold xM at he
  split at he
  · cases he
  · rename_i v ρ1 e1
    cases e2 : as ρ1 with
    | none => rw [e2] at he; cases he
    | some r =>
      obtain ⟨us, ρ2⟩ := r
      rw [e2] at he
      cases he
      refine h ρ v ρ1 e1 _ _ _ _ _ _ S _ fun u F2 H2 g S2 o => hs ρ1 us _ e2 _ _ _ _ _ _ S2 _ fun vs F3 H3 g2 S3 o2 => ?_
      exact q (u :: vs) F3 H3 (g.trans g2) S3 (.cons (o.up S g g2) (o2.imp fun _ _ z => z.fromG g))
theorem frzA_ok {F0 H0 : Hp} {m : Addr → Prop} {σ : L2.St} {H : Hp} : ∀ {js : List Nat} {ρ ρ2 : Sts} {F : Hp}, frzA js ρ = some ρ2 → Sg K w F0 H0 m F H σ ρ → ∃ F2, Go σ ρ ρ2 F H F2 H ∧ Sg K w F0 H0 m F2 H σ ρ2
  | [], ρ, ρ2, F, h, S => by cases h; exact ⟨F, .refl S.fh, S⟩
  | j :: js, ρ, ρ2, F, h, S => by
    unfold frzA at h
    split at h
    · rename_i xs hj
      obtain ⟨F1, u, e1, dp, g, S1⟩ := S.frzS hj
      obtain ⟨F2, g2, S2⟩ := frzA_ok h S1
      exact ⟨F2, g.trans g2, S2⟩
    · exact frzA_ok h S
    · cases h
/-! the slots behind a call -/
theorem putS_at : ∀ {ps : List (Nat × List PD)} {ρ ρ' : Sts}, (ps.map (·.1)).Nodup → putS ps ρ = some ρ' → ρ'.length = ρ.length ∧ ∀ i : Nat,
    (∃ ys b xs, (i, ys) ∈ ps ∧ ρ[i]? = some (.own b xs) ∧ ρ'[i]? = some (.own b ys)) ∨ ((∀ ys, (i, ys) ∉ ps) ∧ ρ'[i]? = ρ[i]?)
  | [], ρ, ρ', _, h => by cases h; exact ⟨rfl, fun i => .inr ⟨fun ys => List.not_mem_nil, rfl⟩⟩
  | (j, ys) :: ps, ρ, ρ', nd, h => by
    unfold putS at h
    split at h
    · rename_i b xs hj
      rw [List.map_cons, List.nodup_cons] at nd
      obtain ⟨l, ih⟩ := putS_at nd.2 h
      have lj : j < ρ.length := (List.getElem?_eq_some_iff.mp hj).1
      rw [List.length_set] at l
      refine ⟨l, fun i => ?_⟩
      by_cases z : j = i
      · subst z
        rcases ih j with ⟨ys2, b2, xs2, h1, _⟩ | ⟨h1, h2⟩
        · exact absurd (List.mem_map.mpr ⟨_, h1, rfl⟩) nd.1
        · exact .inl ⟨ys, b, xs, List.mem_cons_self, hj, by rw [h2, List.getElem?_set_self lj]⟩
      · rcases ih i with ⟨ys2, b2, xs2, h1, h2, h3⟩ | ⟨h1, h2⟩
        · rw [List.getElem?_set_ne z] at h2
          exact .inl ⟨ys2, b2, xs2, List.mem_cons_of_mem _ h1, h2, h3⟩
        · rw [List.getElem?_set_ne z] at h2
          refine .inr ⟨fun ys2 q => ?_, h2⟩
          rcases List.mem_cons.mp q with q | q
          · cases q; exact z rfl
          · exact h1 ys2 q
    · cases h
theorem Sg.turn {F0 H0 F H F2 H2 : Hp} {m : Addr → Prop} {σ : L2.St} {ρ ρ' : Sts} {ps : List (Nat × List PD)} (T : Addr → Prop) (S : Sg K w F0 H0 m F H σ ρ) (nd : (ps.map (·.1)).Nodup) (hp : putS ps ρ = some ρ')
    (ff : Same F F2) (fh : Same F2 H2) (hh : ∀ a o, H a = some o → (∀ j ys, (j, ys) ∈ ps → σ[j]? ≠ some (some (.ref a))) → ¬ T a → H2 a = some o) (ht : ∀ a, T a → H0 a = none ∧ ¬ Ow σ ρ a)
    (nj : ∀ a, F a = none → H a ≠ none → F2 a = none) (hn : ∀ a, H a ≠ none → H2 a ≠ none) (hd : NoD H → NoD H2)
    (new : ∀ j ys p, (j, ys) ∈ ps → σ[j]? = some (some (.ref p)) → ∃ us, H2 p = some (.lst us) ∧ DpAll K F2 us ys) : Sg K w F0 H0 m F2 H2 σ ρ' := by
  obtain ⟨lρ, at_⟩ := putS_at nd hp
  have mtw : ∀ {s : Sl}, (s.to w).mt = true → s.mt = true := fun {s} h => by rw [to_mt] at h; exact h
  have psOw : ∀ j ys, (j, ys) ∈ ps → ∃ b xs, ρ[j]? = some (.own b xs) := fun j ys h => by
    rcases at_ j with ⟨_, b, xs, _, h2, _⟩ | ⟨h1, _⟩
    · exact ⟨b, xs, h2⟩
    · exact absurd h (h1 ys)
  -- the slot's old thing
  have old : ∀ (i : Nat) (s : Sl), ρ'[i]? = some s → s.mt = true → ∃ s0, ρ[i]? = some s0 ∧ s0.mt = true ∧ (s0.to w).lc = (s.to w).lc := fun i s e ms => by
    rcases at_ i with ⟨ys, b, xs, _, h2, h3⟩ | ⟨_, h2⟩
    · rw [h3] at e
      cases e
      exact ⟨_, h2, rfl, rfl⟩
    · exact ⟨s, h2 ▸ e, ms, rfl⟩
  refine ⟨⟨S.st.ff.trans ff, fh, fun a o na e => ?_, fun a e na => nj a (S.st.nj a e na) (S.st.hn a na), fun a na => hn a (S.st.hn a na), fun n => hd (S.st.nd n)⟩, by rw [sts_len, lρ, ← sts_len w ρ]; exact S.len, fun i z hz => ?_, fun i j si sj v ij ei ej mi mj ev => ?_, fun i z q e mz eq => ?_, S.n0⟩
  · refine hh a o (S.st.hh a o na e) (fun j ys h eq => ?_) fun t => ?_
    · obtain ⟨b, xs, hj⟩ := psOw j ys h
      have fr := S.fr j _ a (sts_at (w := w) hj) rfl eq
      cases b with
      | true => rw [fr.1 rfl] at e; cases e
      | false => exact na (fr.2 rfl)
    · rw [(ht a t).1] at e; cases e
  · obtain ⟨s, e1, rfl⟩ := sts_of hz
    rcases at_ i with ⟨ys, b, xs, h1, h2, h3⟩ | ⟨h1, h2⟩
    · rw [h3] at e1
      cases e1
      obtain ⟨p, vs, e2, f, e3, _⟩ := S.own (sts_at (w := w) h2)
      rw [e2]
      obtain ⟨us, n1, n2⟩ := new i ys p h1 e2
      exact ⟨p, us, rfl, nj p f (by rw [e3]; exact fun z => nomatch z), n1, n2⟩
    · rw [h2] at e1
      have k := S.ok i _ (sts_at (w := w) e1)
      have keep : ∀ (p : Addr) (o : HO), s.mt = true → (σ[i]?).join = some (.ref p) → H p = some o → H2 p = some o := fun p o ms hq e => by
        refine hh p o e (fun j ys h eq => ?_) fun t => (ht p t).2 ⟨i, s, e1, ms, opt_join hq⟩
        obtain ⟨b, xs, hj⟩ := psOw j ys h
        have ij : i ≠ j := fun z => by subst z; exact h1 ys h
        exact S.dis i j _ _ _ ij (sts_at (w := w) e1) (sts_at hj) (by rw [to_mt]; exact ms) rfl (opt_join hq) eq
      cases s with
      | emp => exact trivial
      | d x => obtain ⟨v, h1, h2⟩ := k; exact ⟨v, h1, dp_up ff _ _ h2⟩
      | own b xs => obtain ⟨q, vs, a1, a2, a3, a4⟩ := k; exact ⟨q, vs, a1, nj q a2 (by rw [a3]; exact fun z => nomatch z), keep q _ rfl a1 a3, da_up ff _ _ a4⟩
      | iset ks => obtain ⟨q, a1, a2, a3⟩ := k; exact ⟨q, a1, nj q a2 (by rw [a3]; exact fun z => nomatch z), keep q _ rfl a1 a3⟩
      | nset ks => obtain ⟨q, a1, a2, a3⟩ := k; exact ⟨q, a1, nj q a2 (by rw [a3]; exact fun z => nomatch z), keep q _ rfl a1 a3⟩
  · obtain ⟨s1, e1, rfl⟩ := sts_of ei
    obtain ⟨s2, e2, rfl⟩ := sts_of ej
    obtain ⟨t1, a1, b1, _⟩ := old i s1 e1 (mtw mi)
    obtain ⟨t2, a2, b2, _⟩ := old j s2 e2 (mtw mj)
    exact S.dis i j _ _ v ij (sts_at (w := w) a1) (sts_at a2) (by rw [to_mt]; exact b1) (by rw [to_mt]; exact b2) ev
  · obtain ⟨s1, e1, rfl⟩ := sts_of e
    obtain ⟨t1, a1, b1, c1⟩ := old i s1 e1 (mtw mz)
    have fr := S.fr i _ q (sts_at (w := w) a1) (by rw [to_mt]; exact b1) eq
    rw [c1] at fr
    exact fr
end
end MU

namespace MU
open PySem PySem.Spec L2
section
variable {K : PySem.W.Frag} {w : World} {F0 H0 F H F1 H1 F2 H2 Fc : Hp} {m : Addr → Prop} {σ : L2.St} {ρ ρ1 ρ' : Sts} {f : Fn} {np : Nat}
theorem dals_own : ∀ {vs : List Xa} {j : Nat}, j ∈ dals ρ vs → ∃ b xs, ρ[j]? = some (.own b xs)
  | [], _, h => by cases h
  | .r (.al i) :: vs, j, h => by
    unfold dals at h
    split at h
    · rename_i b xs hi
      rcases List.mem_cons.mp h with rfl | h
      · exact ⟨b, xs, hi⟩
      · exact dals_own h
    · exact dals_own h
  | .r (.d _) :: vs, j, h => dals_own (vs := vs) h
  | .r (.new _) :: vs, j, h => dals_own (vs := vs) h
  | .m _ :: vs, j, h => by
    have : j ∈ dals ρ vs := by
      cases ‹Vl› <;> exact h
    exact dals_own this
theorem mals_own : ∀ {vs : List Xa} {ars : List Ar} {j : Nat}, arsOf ρ vs = some ars → j ∈ mals vs → ∃ b xs, ρ[j]? = some (.own b xs)
  | [], _, _, _, h => by cases h
  | .r v :: vs, ars, j, e, h => by
    unfold arsOf at e
    split at e
    · rename_i e2
      exact mals_own e2 h
    · cases e
  | .m (.al i) :: vs, ars, j, e, h => by
    unfold arsOf at e
    split at e
    · rename_i hi e2
      rcases List.mem_cons.mp (show j ∈ i :: mals vs from h) with rfl | h
      · exact ⟨_, _, hi⟩
      · exact mals_own e2 h
    · cases e
  | .m (.new ys) :: vs, ars, j, e, h => by
    unfold arsOf at e
    cases e2 : arsOf ρ vs with
    | none => rw [e2] at e; cases e
    | some r => exact mals_own e2 h
  | .m (.d _) :: vs, ars, j, e, h => by cases e
/-- the arguments as the callee meets them -/
theorem aok_of (S1 : Sg K w F0 H0 m F1 H1 σ ρ1) (ff : Same F1 Fc) (hnew : ∀ p, H p = none → F1 p = none → Fc p = none) : ∀ {vs : List Xa} {us : List V} {ars : List Ar}, VX (VOk K σ H F1 H1) us vs → arsOf ρ1 vs = some ars →
    (∀ j ∈ dals ρ1 vs, ∀ p, σ[j]? = some (some (.ref p)) → Fc p = H1 p) → (∀ j ∈ mals vs, ∀ p, σ[j]? = some (some (.ref p)) → Fc p = none) → AOk K Fc H1 us ars
  | [], us, ars, o, e, _, _ => by
    cases e
    cases o
    exact .nil
  | .r v :: vs, us, ars, o, e, hd, hm => by
    cases o with
    | cons o1 o2 =>
      unfold arsOf at e
      split at e
      · rename_i x as e1 e2
        cases e
        have tail := aok_of S1 ff hnew o2 e2 (fun j h => hd j (by
          cases v with
          | al i =>
            unfold dals
            split
            · exact List.mem_cons_of_mem _ h
            · exact h
          | d _ => exact h
          | new _ => exact h)) hm
        refine .d ?_ tail
        cases v with
        | d y => cases e1; exact dp_up ff _ _ o1
        | new _ => cases e1
        | al i =>
          have o1 : σ[i]? = some (some _) := o1
          cases hs : ρ1[i]? with
          | none => simp [look, hs] at e1
          | some s =>
            cases s with
            | emp => simp [look, hs] at e1
            | iset ks => simp [look, hs] at e1
            | nset ks => simp [look, hs] at e1
            | d y =>
              simp only [look, hs] at e1
              cases e1
              obtain ⟨v', e3, r⟩ := S1.var (sts_at (w := w) hs)
              rw [o1] at e3
              cases e3
              exact dp_up ff _ _ r
            | own b xs =>
              simp only [look, hs] at e1
              cases e1
              obtain ⟨p, ws, e3, _, h3, d3⟩ := S1.own (sts_at (w := w) hs)
              rw [o1] at e3
              cases e3
              have hp := hd i (by unfold dals; rw [hs]; exact List.mem_cons_self) p o1
              exact .lst (.inl (.inl (hp.trans h3))) (da_up ff _ _ d3)
      · cases e
  | .m (.al i) :: vs, us, ars, o, e, hd, hm => by
    cases o with
    | cons o1 o2 =>
      unfold arsOf at e
      split at e
      · rename_i b ys as hi e2
        cases e
        have o1 : σ[i]? = some (some _) := o1
        obtain ⟨p, ws, e3, _, h3, d3⟩ := S1.own (sts_at (w := w) hi)
        rw [o1] at e3
        cases e3
        exact .m (hm i List.mem_cons_self p o1) h3 (da_up ff _ _ d3) (aok_of S1 ff hnew o2 e2 hd fun j h => hm j (List.mem_cons_of_mem _ h))
      · cases e
  | .m (.new ys) :: vs, us, ars, o, e, hd, hm => by
    cases o with
    | cons o1 o2 =>
      unfold arsOf at e
      cases e2 : arsOf ρ1 vs with
      | none => rw [e2] at e; cases e
      | some as =>
        rw [e2] at e
        cases e
        obtain ⟨p, ws, rfl, f1, n1, h1, d1⟩ := o1
        exact .m (hnew p n1 f1) h1 (da_up ff _ _ d1) (aok_of S1 ff hnew o2 e2 hd hm)
  | .m (.d _) :: vs, us, ars, o, e, hd, hm => by cases e
/-- a list that may be changed is a slot's, or new -/
theorem mad_of : ∀ {vs : List Xa} {us : List V} {ars : List Ar} {a : Addr}, VX (VOk K σ H F1 H1) us vs → arsOf ρ1 vs = some ars → MAd us ars a → (∃ j ∈ mals vs, σ[j]? = some (some (.ref a))) ∨ (1 ≤ news vs ∧ H a = none)
  | [], us, ars, a, o, e, ⟨i, xs, h, _⟩ => by cases e; simp at h
  | .r v :: vs, us, ars, a, o, e, ⟨i, xs, h, hu⟩ => by
    cases o with
    | cons o1 o2 =>
      unfold arsOf at e
      split at e
      · rename_i e2
        cases e
        cases i with
        | zero => cases h
        | succ i => exact mad_of (vs := vs) o2 e2 ⟨i, xs, by simpa using h, by simpa using hu⟩
      · cases e
  | .m (.al j) :: vs, us, ars, a, o, e, ⟨i, xs, h, hu⟩ => by
    cases o with
    | cons o1 o2 =>
      unfold arsOf at e
      split at e
      · rename_i e2
        cases e
        cases i with
        | zero =>
          cases hu
          exact .inl ⟨j, List.mem_cons_self, o1⟩
        | succ i =>
          rcases mad_of o2 e2 ⟨i, xs, by simpa using h, by simpa using hu⟩ with ⟨j', h1, h2⟩ | z
          · exact .inl ⟨j', List.mem_cons_of_mem _ h1, h2⟩
          · exact .inr z
      · cases e
  | .m (.new ys) :: vs, us, ars, a, o, e, ⟨i, xs, h, hu⟩ => by
    cases o with
    | cons o1 o2 =>
      unfold arsOf at e
      cases e2 : arsOf ρ1 vs with
      | none => rw [e2] at e; cases e
      | some as =>
        rw [e2] at e
        cases e
        cases i with
        | zero =>
          cases hu
          obtain ⟨p, ws, hp, f1, n1, _⟩ := o1
          cases hp
          exact .inr ⟨Nat.succ_le_succ (Nat.zero_le _), n1⟩
        | succ i =>
          rcases mad_of o2 e2 ⟨i, xs, by simpa using h, by simpa using hu⟩ with z | ⟨z1, z2⟩
          · exact .inl z
          · exact .inr ⟨Nat.le_trans z1 (Nat.le_succ _), z2⟩
  | .m (.d _) :: vs, us, ars, a, o, e, _ => by cases e
theorem dst_d {us : List V} {as : List Ar} {u : V} {x : PD} (h : Dst us as) : Dst (u :: us) (.d x :: as) := fun i j xs ys p ij a b c => by
  cases i with
  | zero => cases a
  | succ i =>
    cases j with
    | zero => cases b
    | succ j => exact h i j xs ys p (fun z => ij (by rw [z])) (by simpa using a) (by simpa using b) (by simpa using c)
theorem dst_m {us : List V} {as : List Ar} {p : Addr} {x : List PD} (h : Dst us as) (n : ¬ MAd us as p) : Dst (.ref p :: us) (.m x :: as) := fun i j xs ys q ij a b c => by
  cases i with
  | zero =>
    cases j with
    | zero => exact absurd rfl ij
    | succ j =>
      cases c
      exact fun d => n ⟨j, ys, by simpa using b, by simpa using d⟩
  | succ i =>
    cases j with
    | zero =>
      intro d
      cases d
      exact n ⟨i, xs, by simpa using a, by simpa using c⟩
    | succ j => exact h i j xs ys q (fun z => ij (by rw [z])) (by simpa using a) (by simpa using b) (by simpa using c)
theorem dst_of (S : Sg K w F0 H0 m F H σ ρ) (g : Go σ ρ ρ1 F H F1 H1) (S1 : Sg K w F0 H0 m F1 H1 σ ρ1) : ∀ {vs : List Xa} {us : List V} {ars : List Ar}, VX (VOk K σ H F1 H1) us vs → arsOf ρ1 vs = some ars → (mals vs).Nodup → news vs ≤ 1 → Dst us ars
  | [], us, ars, o, e, _, _ => by cases e; exact fun i j xs ys p _ a => by simp at a
  | .r v :: vs, us, ars, o, e, nd, nw => by
    cases o with
    | cons o1 o2 =>
      unfold arsOf at e
      split at e
      · rename_i e2
        cases e
        exact dst_d (dst_of S g S1 o2 e2 nd nw)
      · cases e
  | .m (.al j) :: vs, us, ars, o, e, nd, nw => by
    cases o with
    | cons o1 o2 =>
      unfold arsOf at e
      split at e
      · rename_i b ys as hi e2
        cases e
        have nd' : (j :: mals vs).Nodup := nd
        rw [List.nodup_cons] at nd'
        have o1 : σ[j]? = some (some _) := o1
        obtain ⟨p, ws, e3, _⟩ := S1.own (sts_at (w := w) hi)
        rw [o1] at e3
        cases e3
        refine dst_m (dst_of S g S1 o2 e2 nd'.2 nw) fun q => ?_
        rcases mad_of o2 e2 q with ⟨j', h1, h2⟩ | ⟨_, h2⟩
        · obtain ⟨b', xs', hj'⟩ := mals_own e2 h1
          exact S1.dis j j' _ _ _ (fun z => nd'.1 (z ▸ h1)) (sts_at (w := w) hi) (sts_at hj') rfl rfl o1 h2
        · exact (S.live (g.sub.ow ⟨j, _, hi, rfl, o1⟩)).2 h2
      · cases e
  | .m (.new ys) :: vs, us, ars, o, e, nd, nw => by
    cases o with
    | cons o1 o2 =>
      unfold arsOf at e
      cases e2 : arsOf ρ1 vs with
      | none => rw [e2] at e; cases e
      | some as =>
        rw [e2] at e
        cases e
        obtain ⟨p, ws, rfl, f1, n1, _⟩ := o1
        have nw' : news vs + 1 ≤ 1 := nw
        refine dst_m (dst_of S g S1 o2 e2 nd (by omega)) fun q => ?_
        rcases mad_of o2 e2 q with ⟨j', h1, h2⟩ | ⟨h1, _⟩
        · obtain ⟨b', xs', hj'⟩ := mals_own e2 h1
          exact (S.live (g.sub.ow ⟨j', _, hj', rfl, h2⟩)).2 n1
        · omega
  | .m (.d _) :: vs, us, ars, o, e, nd, nw => by cases e
theorem mprs_keys : ∀ {vs : List Xa} {ms : List (List PD)} {ps : List (Nat × List PD)}, mprs vs ms = some ps → ps.map (·.1) = mals vs
  | [], [], _, e => by cases e; rfl
  | [], _ :: _, _, e => by cases e
  | .r _ :: vs, ms, ps, e => mprs_keys (vs := vs) (ms := ms) e
  | .m (.al j) :: vs, y :: ms, ps, e => by
    have e' : (mprs vs ms).map ((j, y) :: ·) = some ps := e
    cases e1 : mprs vs ms with
    | none => rw [e1] at e'; cases e'
    | some r =>
      rw [e1] at e'
      cases e'
      show j :: r.map (·.1) = j :: mals vs
      rw [mprs_keys e1]
  | .m (.al j) :: vs, [], ps, e => by cases e
  | .m (.new _) :: vs, _ :: ms, ps, e => mprs_keys (vs := vs) (ms := ms) e
  | .m (.new _) :: vs, [], ps, e => by cases e
  | .m (.d _) :: vs, ms, ps, e => by cases ms <;> cases e
/-- what the callee has left in the slots' lists -/
theorem mok_of : ∀ {vs : List Xa} {us : List V} {ars : List Ar} {ms : List (List PD)} {ps : List (Nat × List PD)}, VX (VOk K σ H F1 H1) us vs → arsOf ρ1 vs = some ars → MOk K F2 H2 us ars ms → mprs vs ms = some ps →
    ∀ j ys p, (j, ys) ∈ ps → σ[j]? = some (some (.ref p)) → ys ∈ ms ∧ ∃ ws, H2 p = some (.lst ws) ∧ DpAll K F2 ws ys
  | [], us, ars, ms, ps, o, e, mk, ep => fun j ys p h => by
    cases e
    cases o
    cases mk
    cases ep
    cases h
  | .r v :: vs, us, ars, ms, ps, o, e, mk, ep => fun j ys p h hj => by
    cases o with
    | cons o1 o2 =>
      unfold arsOf at e
      split at e
      · rename_i e2
        cases e
        cases mk with
        | d mk => exact mok_of o2 e2 mk ep j ys p h hj
      · cases e
  | .m (.al i) :: vs, us, ars, ms, ps, o, e, mk, ep => fun j ys p h hj => by
    cases o with
    | cons o1 o2 =>
      unfold arsOf at e
      split at e
      · rename_i b zs as hi e2
        cases e
        cases mk with
        | m f1 h1 d1 mk =>
          rename_i q _ ws y ms'
          have ep' : (mprs vs ms').map ((i, y) :: ·) = some ps := ep
          cases e1 : mprs vs ms' with
          | none => rw [e1] at ep'; cases ep'
          | some r =>
            rw [e1] at ep'
            cases ep'
            rcases List.mem_cons.mp h with h | h
            · cases h
              have o1 : σ[i]? = some (some _) := o1
              rw [o1] at hj
              cases hj
              exact ⟨List.mem_cons_self, ws, h1, d1⟩
            · obtain ⟨h2, h3⟩ := mok_of o2 e2 mk e1 j ys p h hj
              exact ⟨List.mem_cons_of_mem _ h2, h3⟩
      · cases e
  | .m (.new zs) :: vs, us, ars, ms, ps, o, e, mk, ep => fun j ys p h hj => by
    cases o with
    | cons o1 o2 =>
      unfold arsOf at e
      cases e2 : arsOf ρ1 vs with
      | none => rw [e2] at e; cases e
      | some as =>
        rw [e2] at e
        cases e
        cases mk with
        | m f1 h1 d1 mk =>
          obtain ⟨h2, h3⟩ := mok_of o2 e2 mk ep j ys p h hj
          exact ⟨List.mem_cons_of_mem _ h2, h3⟩
  | .m (.d _) :: vs, us, ars, ms, ps, o, e, mk, ep => by cases e
theorem flat_sc {d : PD} (h : flatD d = true) : (scV d).isSome = true := by cases d <;> first | rfl | cases h
theorem flats_sc {ds : List PD} (h : ds.all flatD = true) : ∀ d ∈ ds, (scV d).isSome = true := fun d hd => flat_sc (List.all_eq_true.mp h d hd)
open Classical in
/-- a call, its arguments at hand -/
theorem callAt_ok {us : List V} {vs : List Xa} {v : Vl} {Q : VK} {E : XK} (hl : ∀ ars r, f ars = some r → ars.length = np) (S : Sg K w F0 H0 m F H σ ρ) (g : Go σ ρ ρ1 F H F1 H1) (S1 : Sg K w F0 H0 m F1 H1 σ ρ1) (o : VX (VOk K σ H F1 H1) us vs) (he : callAt f vs ρ1 = some (v, ρ'))
    (q : ∀ u F2 H2, Go σ ρ ρ' F H F2 H2 → Sg K w F0 H0 m F2 H2 σ ρ' → VOk K σ H F2 H2 u v → Q u H2) : spF K np f us H1 Q E := by
  unfold callAt at he
  split at he
  · cases he
  rename_i ars ea
  split at he
  · cases he
  rename_i v' ms ef
  split at he
  rotate_left
  · cases he
  rename_i cond
  obtain ⟨nd, dj, nw, fl⟩ := cond
  split at he
  · cases he
  rename_i ps ep
  cases er : putS ps ρ1 with
  | none => rw [er] at he; cases he
  | some ρ2 =>
  rw [er] at he
  cases he
  have keys := mprs_keys ep
  have lA := fun (a : Addr) (h : ∃ j ∈ dals ρ1 vs, σ[j]? = some (some (V.ref a))) => (show Ow σ ρ1 a from by
    obtain ⟨j, h1, h2⟩ := h
    obtain ⟨b, xs, h3⟩ := dals_own h1
    exact ⟨j, _, h3, rfl, h2⟩)
  let Fc : Hp := fun a => if (∃ j ∈ dals ρ1 vs, σ[j]? = some (some (V.ref a))) then H1 a else F1 a
  have inn : ∀ a, (∃ j ∈ dals ρ1 vs, σ[j]? = some (some (V.ref a))) → Fc a = H1 a := fun a h => if_pos h
  have out : ∀ a, ¬ (∃ j ∈ dals ρ1 vs, σ[j]? = some (some (V.ref a))) → Fc a = F1 a := fun a h => if_neg h
  have ffc : Same F1 Fc := fun a ob e => by
    rw [out a fun h => by rw [(S1.live (lA a h)).1] at e; cases e]
    exact e
  have fhc : Same Fc H1 := fun a ob e => by
    by_cases h : ∃ j ∈ dals ρ1 vs, σ[j]? = some (some (V.ref a))
    · rw [inn a h] at e; exact e
    · rw [out a h] at e; exact S1.fh a ob e
  have aok : AOk K Fc H1 us ars := aok_of S1 ffc (fun p n f1 => by
      rw [out p fun h => (S.live (g.sub.ow (lA p h))).2 n]
      exact f1) o ea (fun j h p hp => inn p ⟨j, h, hp⟩) fun j h p hp => by
      obtain ⟨b, xs, hj⟩ := mals_own ea h
      rw [out p fun ⟨j', h1, h2⟩ => by
        obtain ⟨b', xs', hj'⟩ := dals_own h1
        exact S1.dis j' j _ _ _ (fun z => dj j' h1 (z ▸ h)) (sts_at (w := w) hj') (sts_at hj) rfl rfl h2 hp]
      exact (S1.live ⟨j, _, hj, rfl, hp⟩).1
  have ml : ars.length = np := hl _ _ ef
  refine ⟨(aok_len aok).trans ml, Fc, ars, v, ms, ef, ⟨fhc, S1.fz.n⟩, aok, dst_of S g S1 o ea nd nw, fun u F2 H2 st mk ov => ?_⟩
  -- what is kept behind the call
  have key : ∃ Fd, Same F1 Fd ∧ Same Fd H2 ∧ (∀ a, F1 a = none → H1 a ≠ none → Fd a = none) ∧ VOk K [] H1 Fd H2 u v ∧ ∀ j ys p, (j, ys) ∈ ps → σ[j]? = some (some (.ref p)) → ∃ ws, H2 p = some (.lst ws) ∧ DpAll K Fd ws ys := by
    rcases fl with fl | fl
    · have e1 : Fc = F1 := funext fun a => out a fun ⟨j, h, _⟩ => by rw [fl] at h; cases h
      rw [e1] at st
      exact ⟨F2, st.ff, st.fh, st.nj, ov, fun j ys p h hj => (mok_of o ea mk ep j ys p h hj).2⟩
    · unfold flatR at fl
      rw [Bool.and_eq_true] at fl
      refine ⟨F1, Same.refl F1, (ffc.trans st.ff).trans st.fh, fun a e _ => e, ?_, fun j ys p h hj => ?_⟩
      · cases v with
        | d x => exact dp_sc ov (flat_sc fl.1)
        | al i => cases fl.1
        | new xs =>
          obtain ⟨p, ws, rfl, f2, n2, h2, d2⟩ := ov
          exact ⟨p, ws, rfl, S1.fh.free n2, n2, h2, da_sc d2 (flats_sc fl.1)⟩
      · obtain ⟨h1, ws, h2, d2⟩ := mok_of o ea mk ep j ys p h hj
        exact ⟨ws, h2, da_sc d2 (flats_sc (List.all_eq_true.mp fl.2 ys h1))⟩
  obtain ⟨Fd, c1, c2, c3, c4, c5⟩ := key
  have mad : ∀ a, MAd us ars a → (∃ j ys, (j, ys) ∈ ps ∧ σ[j]? = some (some (.ref a)) ∧ ∃ b xs, ρ1[j]? = some (.own b xs)) ∨ H a = none := fun a h => by
    rcases mad_of o ea h with ⟨j, h1, h2⟩ | ⟨_, h2⟩
    · have hk := h1
      rw [← keys] at hk
      obtain ⟨⟨j', ys⟩, h3, rfl⟩ := List.mem_map.mp hk
      exact .inl ⟨j', ys, h3, h2, mals_own ea h1⟩
    · exact .inr h2
  have S2 : Sg K w F0 H0 m Fd H2 σ ρ' := S1.turn (fun a => H a = none) (by rw [keys]; exact nd) er c1 c2 (fun a ob e n t => st.hh a ob (fun h => by
      rcases mad a h with ⟨j, ys, h1, h2, _⟩ | h
      · exact n j ys h1 h2
      · exact t h) e) (fun a t => ⟨S.old t, fun ow => (S.live (g.sub.ow ow)).2 t⟩) c3 st.hn st.nd c5
  obtain ⟨lρ, at_⟩ := putS_at (by rw [keys]; exact nd) er
  have sub : Sub ρ' ρ1 := fun i s e ms => by
    rcases at_ i with ⟨ys, b, xs, _, h2, h3⟩ | ⟨_, h2⟩
    · rw [h3] at e
      cases e
      refine ⟨_, h2, rfl, fun z => ?_⟩
      cases b with
      | true => cases z
      | false => rfl
    · exact ⟨s, h2 ▸ e, ms, id⟩
  have g2 : Go σ ρ ρ' F H Fd H2 := ⟨g.ff.trans c1, c2, fun a ob n e => st.hh a ob (fun h => by
      rcases mad a h with ⟨j, ys, h1, h2, b, xs, h3⟩ | h
      · exact n (g.sub.ow ⟨j, _, h3, rfl, h2⟩)
      · rw [h] at e; cases e) (g.hh a ob n e), fun a n e1 e2 => c3 a (g.nj a n e1 e2) (g.hn a e2), fun a e => st.hn a (g.hn a e), fun n => st.nd (g.nd n), sub.trans g.sub⟩
  exact q u Fd H2 g2 S2 (c4.any.fromG g)
theorem se_call {E : XK} {tz : TA} {as : Xv} (hl : ∀ ars r, f ars = some r → ars.length = np) (h : SX K w tz as) : SE K w (tCall (spF K np f) [] E tz) (eCall f as) := fun ρ v ρ' he F0 H0 m F H σ S Q q => by
  unfold eCall at he
  split at he
  · cases he
  rename_i vs ρ1 e1
  refine h ρ vs ρ1 e1 _ _ _ _ _ _ S _ fun us F1 H1 g S1 o => ?_
  rw [List.append_nil]
  split at he
  · rename_i r e2
    cases he
    exact callAt_ok hl S g S1 o e2 q
  · split at he
    · cases he
    rename_i ρ2 e3
    obtain ⟨F2, g2, S2⟩ := frzA_ok e3 S1
    exact callAt_ok hl S (g.trans g2) S2 (o.imp fun u v z => z.up S g g2) he q
end
end MU

namespace MU
open PySem PySem.Spec L2
/-! ## sets of one's own -/
section
variable {K : PySem.W.Frag} {w : World} {te ta tb : TE} {a b e : Ev}
theorem any_add {α : Type} [DecidableEq α] (ks : List α) (k : α) : (fun j => (ks ++ [k]).any fun x => decide (x = j)) = fun j => (ks.any fun x => decide (x = j)) || decide (j = k) := funext fun j => by
  rw [List.any_append, List.any_cons, List.any_nil, Bool.or_false]
  congr 1
  exact decide_eq_decide.mpr ⟨Eq.symm, Eq.symm⟩
/-- a new object of a slot's own -/
theorem Sg.setNew {F0 H0 F H : Hp} {m : Addr → Prop} {σ : L2.St} {ρ : Sts} (S : Sg K w F0 H0 m F H σ ρ) (i : Nat) {p : Addr} {s : Sl} (ok : SlotOk K w F H (some (.ref p)) (s.to w)) (hm : s.mt = true) (hl : (s.to w).lc = true) (n0 : H0 p = none) (no : ¬ Ow σ ρ p) :
    Sg K w F0 H0 m F H (σ.set i (some (.ref p))) (ρ.set i s) := by
  show Sig K w F0 H0 m F H _ (stsTo w _)
  rw [sts_set]
  refine Sig.setM S i ok (by rw [to_mt]; exact hm) ⟨fun _ => n0, fun z => by rw [hl] at z; cases z⟩ fun j sj ij ej mj eq => ?_
  obtain ⟨s1, e1, rfl⟩ := sts_of ej
  exact no ⟨j, s1, e1, by rw [← to_mt w]; exact mj, eq⟩
/-- a set of one's own changes -/
theorem Sg.chgS {F0 H0 F H : Hp} {m : Addr → Prop} {σ : L2.St} {ρ : Sts} {i : Nat} {p : Addr} {s s' : Sl} {o : HO} (S : Sg K w F0 H0 m F H σ ρ) (hi : ρ[i]? = some s) (hm : s.mt = true) (hp : σ[i]? = some (some (.ref p))) (f : F p = none) (hH : H p ≠ none)
    (ok : SlotOk K w F (upd H p o) (some (.ref p)) (s'.to w)) (hm' : s'.mt = true) (hl : (s'.to w).lc = (s.to w).lc) (ko : OkO o) : Sg K w F0 H0 m F (upd H p o) σ (ρ.set i s') := by
  show Sig K w F0 H0 m F _ σ (stsTo w _)
  rw [sts_set]
  exact Sig.chg S (sts_at (w := w) hi) (by rw [to_mt]; exact hm) hp f hH ok (by rw [to_mt]; exact hm') hl ko
theorem kf_set {σ : L2.St} {ρ : Sts} {i : Nat} {s : Sl} (h : s.giv = false) : Kf σ σ ρ (ρ.set i s) := fun j zs e => by
  by_cases z : i = j
  · subst z
    have l : i < ρ.length := by
      have := (List.getElem?_eq_some_iff.mp e).1
      rw [List.length_set] at this
      exact this
    rw [List.getElem?_set_self l] at e
    cases e
    cases h
  · rw [List.getElem?_set_ne z] at e
    exact ⟨rfl, zs, e⟩
theorem Sg.no_new {F0 H0 F H : Hp} {m : Addr → Prop} {σ : L2.St} {ρ : Sts} (S : Sg K w F0 H0 m F H σ ρ) {p : Addr} (n : H p = none) : ¬ Ow σ ρ p := fun o => (S.live o).2 n
theorem Sg.mk0 {F0 H0 F H : Hp} {m : Addr → Prop} {σ : L2.St} {ρ : Sts} {p : Addr} {o : HO} (S : Sg K w F0 H0 m F H σ ρ) (n : H p = none) (ko : OkO o) : Sg K w F0 H0 m F (upd H p o) σ ρ := S.up0 (.mk1 S.fh n ko)
def sSetN (i : Nat) : Sv := fun ρ => some (.next, ρ.set i (.nset []))
theorem ss_setN {i : Nat} : SS K w (tAsg (tCB (rSet0N w) tNil) (gName i)) (sSetN i) := fun ρ fl ρ' he F0 H0 m F H σ S D q => by
  cases he
  refine ⟨rfl, fun p np => ?_⟩
  have S1 := S.mk0 (o := SetNo w p (fun _ => false) 0) np ok_setno
  refine q F _ _ (Same.refl F) (S1.setNew i (s := .nset []) ⟨p, rfl, S.fh.free np, upd_same⟩ rfl rfl (S.old np) fun o => (S.live o).2 np) (.put rfl)
def sSetI (i : Nat) : Sv := fun ρ => some (.next, ρ.set i (.iset []))
theorem ss_setI {i : Nat} : SS K w (tAsg (tCB (rSet0 w) tNil) (gName i)) (sSetI i) := fun ρ fl ρ' he F0 H0 m F H σ S D q => by
  cases he
  refine ⟨rfl, fun p np => ?_⟩
  have S1 := S.mk0 (o := SetO w p (fun _ => false) 0) np ok_seto
  refine q F _ _ (Same.refl F) (S1.setNew i (s := .iset []) ⟨p, rfl, S.fh.free np, upd_same⟩ rfl rfl (S.old np) fun o => (S.live o).2 np) (.put rfl)
/-- x = {e} -/
def sSet1 (i : Nat) (e : Ev) : Sv := fun ρ => match eSee e ρ with
  | some (.int k, ρ1) => some (.next, ρ1.set i (.iset [k]))
  | _ => none
theorem ss_set1 {i : Nat} (h : SE K w te e) : SS K w (tAsg (tSet1 w te) (gName i)) (sSet1 i e) := fun ρ fl ρ' he F0 H0 m F H σ S D q => by
  unfold sSet1 at he
  split at he
  · rename_i k ρ1 e1
    cases he
    intro p np
    have S1 := S.mk0 (o := SetO w p (fun _ => false) 0) np ok_seto
    refine se_see h e1 S1 fun u F2 H2 g S2 o => ?_
    have noP : ¬ Ow σ ρ p := fun ow => (S.live ow).2 np
    have h2 : H2 p = some (SetO w p (fun _ => false) 0) := g.hh p _ noP upd_same
    have f2 : F2 p = none := g.nj p noP (S.fh.free np) (by rw [upd_same]; exact fun z => nomatch z)
    refine ⟨k, rdb_int o, h2, ?_⟩
    have e2 : (fun j => false || decide (j = k)) = fun j : Int => [k].any fun x => decide (x = j) := funext fun j => by
      rw [Bool.false_or, List.any_cons, List.any_nil, Bool.or_false]
      exact decide_eq_decide.mpr ⟨Eq.symm, Eq.symm⟩
    rw [e2]
    have noP2 : ¬ Ow σ ρ1 p := fun ow => noP (g.sub.ow ow)
    have S3 := S2.other (o := SetO w p (fun j : Int => [k].any fun x => decide (x = j)) 1) f2 (S.old np) noP2 ok_seto
    exact q F2 _ _ g.ff (S3.setNew i (s := .iset [k]) ⟨p, rfl, f2, upd_same⟩ rfl rfl (S.old np) noP2) (g.kf.trans (.put rfl))
  · cases he
def addN (ks : List (Option Key)) (k : Option Key) : List (Option Key) := if ks.any (fun x => decide (x = k)) then ks else ks ++ [k]
def addI (ks : List Int) (k : Int) : List Int := if ks.any (fun x => decide (x = k)) then ks else ks ++ [k]
theorem any_mem {α : Type} [DecidableEq α] {ks : List α} {k : α} (h : (ks.any fun x => decide (x = k)) = true) : (fun j => (ks.any fun x => decide (x = j)) || decide (j = k)) = fun j => ks.any fun x => decide (x = j) := funext fun j => by
  by_cases z : j = k
  · subst z; rw [h]; rfl
  · rw [decide_eq_false z, Bool.or_false]
def sAddN (i : Nat) (e : Ev) : Sv := fun ρ => match ρ[i]?, eSee e ρ with
  | some (.nset _), some (x, ρ1) => match ρ1[i]?, nkOf x with
    | some (.nset ks), some k => if ks.length < 4000 then some (.next, ρ1.set i (.nset (addN ks k))) else none
    | _, _ => none
  | _, _ => none
theorem ss_addN {i : Nat} (h : SE K w te e) : SS K w (tDrop (tSAddN w (tVar i) (tCons te tNil))) (sAddN i e) := fun ρ fl ρ' he F0 H0 m F H σ S D q => by
  unfold sAddN at he
  split at he
  · rename_i ks0 x ρ1 hi0 e1
    split at he
    · rename_i ks k hi hk
      split at he
      · rename_i l
        cases he
        obtain ⟨p, e3, f0, h0⟩ := Sig.obj S (sts_at (w := w) hi0)
        refine ⟨_, e3, ⟨p, _, _, rfl, h0⟩, se_see h e1 S fun u F2 H2 g S2 o => ?_⟩
        obtain ⟨p', e4, f, hp⟩ := Sig.obj S2 (sts_at (w := w) hi)
        rw [e3] at e4
        cases e4
        refine ⟨p, k, _, _, rfl, by rw [nk_v (o.dp S2.fh) hk], hp, Nat.lt_of_lt_of_le (Nat.succ_lt_succ l) (by decide), ?_⟩
        refine q F2 _ σ g.ff (S2.chgS hi rfl e3 f (by rw [hp]; exact fun z => nomatch z) ⟨p, rfl, f, ?_⟩ rfl rfl ok_setno) (g.kf.trans (kf_set rfl))
        rw [upd_same]
        unfold addN
        by_cases c : (ks.any fun x => decide (x = k)) = true
        · rw [if_pos c, if_pos c, any_mem c]
        · rw [if_neg c, if_neg c, any_add, List.length_append]
          rfl
      · cases he
    · cases he
  · cases he
def sAddI (i : Nat) (e : Ev) : Sv := fun ρ => match ρ[i]?, eSee e ρ with
  | some (.iset _), some (.int k, ρ1) => match ρ1[i]? with
    | some (.iset ks) => if ks.length < 4000 then some (.next, ρ1.set i (.iset (addI ks k))) else none
    | _ => none
  | _, _ => none
theorem ss_addI {i : Nat} (h : SE K w te e) : SS K w (tDrop (tSAdd w (tVar i) (tCons te tNil))) (sAddI i e) := fun ρ fl ρ' he F0 H0 m F H σ S D q => by
  unfold sAddI at he
  split at he
  · rename_i ks0 k ρ1 hi0 e1
    split at he
    · rename_i ks hi
      split at he
      · rename_i l
        cases he
        obtain ⟨p, e3, f0, h0⟩ := Sig.aset S (sts_at (w := w) hi0)
        refine ⟨_, e3, ⟨p, _, _, rfl, h0⟩, se_see h e1 S fun u F2 H2 g S2 o => ?_⟩
        obtain ⟨p', e4, f, hp⟩ := Sig.aset S2 (sts_at (w := w) hi)
        rw [e3] at e4
        cases e4
        refine ⟨p, k, _, _, rfl, by rw [rdb_int o], hp, Nat.lt_of_lt_of_le (Nat.succ_lt_succ l) (by decide), ?_⟩
        refine q F2 _ σ g.ff (S2.chgS hi rfl e3 f (by rw [hp]; exact fun z => nomatch z) ⟨p, rfl, f, ?_⟩ rfl rfl ok_seto) (g.kf.trans (kf_set rfl))
        rw [upd_same]
        unfold addI
        by_cases c : (ks.any fun x => decide (x = k)) = true
        · rw [if_pos c, if_pos c, any_mem c]
        · rw [if_neg c, if_neg c, any_add, List.length_append]
          rfl
      · cases he
    · cases he
  · cases he
/-- e in s -/
def eInN (neg : Bool) (e : Ev) (i : Nat) : Ev := fun ρ => match eSee e ρ with
  | some (x, ρ1) => match ρ1[i]?, nkOf x with
    | some (.nset ks), some k => some (.d (.bool (if neg then !(ks.any fun y => decide (y = k)) else ks.any fun y => decide (y = k))), ρ1)
    | _, _ => none
  | none => none
theorem se_inN {neg : Bool} {i : Nat} (h : SE K w te e) : SE K w (tOp (rSInN w neg) te (tVar i)) (eInN neg e i) := fun ρ v ρ' he F0 H0 m F H σ S Q q => by
  unfold eInN at he
  split at he
  · rename_i x ρ1 e1
    split at he
    · rename_i ks k hi hk
      cases he
      refine se_see h e1 S fun u F2 H2 g S2 o => ?_
      obtain ⟨p, e3, f, hp⟩ := Sig.obj S2 (sts_at (w := w) hi)
      exact ⟨_, e3, k, p, _, _, nk_v (o.dp S2.fh) hk, rfl, hp, q _ F2 H2 g S2 (.bl _)⟩
    · cases he
  · cases he
def eInI (neg : Bool) (e : Ev) (i : Nat) : Ev := fun ρ => match eSee e ρ with
  | some (.int k, ρ1) => match ρ1[i]? with
    | some (.iset ks) => some (.d (.bool (if neg then !(ks.any fun y => decide (y = k)) else ks.any fun y => decide (y = k))), ρ1)
    | _ => none
  | _ => none
theorem se_inI {i : Nat} (h : SE K w te e) : SE K w (tOp (rSIn w) te (tVar i)) (eInI false e i) := fun ρ v ρ' he F0 H0 m F H σ S Q q => by
  unfold eInI at he
  split at he
  · rename_i k ρ1 e1
    split at he
    · rename_i ks hi
      cases he
      refine se_see h e1 S fun u F2 H2 g S2 o => ?_
      obtain ⟨p, e3, f, hp⟩ := Sig.aset S2 (sts_at (w := w) hi)
      exact ⟨_, e3, k, p, _, _, rdb_int o, rfl, hp, q _ F2 H2 g S2 (.bl _)⟩
    · cases he
  · cases he
theorem se_notinI {i : Nat} (h : SE K w te e) : SE K w (tOp (rSNotIn w) te (tVar i)) (eInI true e i) := fun ρ v ρ' he F0 H0 m F H σ S Q q => by
  unfold eInI at he
  split at he
  · rename_i k ρ1 e1
    split at he
    · rename_i ks hi
      cases he
      refine se_see h e1 S fun u F2 H2 g S2 o => ?_
      obtain ⟨p, e3, f, hp⟩ := Sig.aset S2 (sts_at (w := w) hi)
      exact ⟨_, e3, k, p, _, _, rdb_int o, rfl, hp, q _ F2 H2 g S2 (.bl _)⟩
    · cases he
  · cases he
/-- sorted(s), s a set of ints -/
def eSortSet (i : Nat) : Ev := fun ρ => match ρ[i]? with
  | some (.iset ks) => if ks.length < 64 ∧ ks.Nodup then some (.new ((sortI ks).map .int), ρ) else none
  | _ => none
theorem se_sortSet {i : Nat} : SE K w (tCB (rSortedSet w) (tCons (tVar i) tNil)) (eSortSet i) := fun ρ v ρ' he F0 H0 m F H σ S Q q => by
  unfold eSortSet at he
  split at he
  · rename_i ks hi
    split at he
    · rename_i l
      cases he
      obtain ⟨p, e3, f, hp⟩ := Sig.aset S (sts_at (w := w) hi)
      refine ⟨_, e3, p, _, _, rfl, hp, l.1, fun ms p' o1 o2 o3 hp' => ?_⟩
      have es : ms = sortI ks := by
        have nd : (sortI ks).Nodup := (sortI_perm ks).nodup_iff.mpr l.2
        have lt : (sortI ks).Pairwise (· < ·) := by
          have h1 := sortI_sorted ks
          have h2 : (sortI ks).Pairwise (· ≠ ·) := nd
          exact (h1.and h2).imp fun ⟨a, b⟩ => by omega
        refine List.Perm.eq_of_pairwise (le := (· < ·)) (fun a b _ _ h h' => absurd (Int.lt_trans h h') (Int.lt_irrefl _)) o1 lt ((List.perm_ext_iff_of_nodup (o1.imp fun h => Int.ne_of_lt h) nd).mpr fun k => (o2 k).trans ?_)
        rw [(sortI_perm ks).mem_iff, List.any_eq_true]
        exact ⟨fun ⟨x, h1, h2⟩ => of_decide_eq_true h2 ▸ h1, fun h => ⟨k, h, decide_eq_true rfl⟩⟩
      subst es
      exact mk_new S.fh hp' (da_ints _) fun u F2 H2 st o => q u F2 H2 (.of0 st) (S.up0 st) o.any
    · cases he
  · cases he
end
end MU

namespace MU
open PySem PySem.Spec PyProof.Rows L2
open PySem.W (codeIn)
theorem Stp.mono0 {m : Addr → Prop} {F H F2 H2 : Hp} (s : Stp m F H F2 H2) (h : ∀ a, ¬ m a) : Stp m0 F H F2 H2 := ⟨s.ff, s.fh, fun a o _ e => s.hh a o (h a) e, s.nj, s.hn, s.nd⟩
/-! ## a rule or another -/
def tEor (t u : TE) : TE := fun σ H Q => t σ H Q ∨ u σ H Q
theorem pe_eor {X : Cx} {e : Expr} {t u : TE} (h : PE X e t) (h2 : PE X e u) : PE X e (tEor t u) := ⟨fun pins s σ H Q I z => by
  rcases z with z | z
  · exact h.run pins s σ H Q I z
  · exact h2.run pins s σ H Q I z⟩
theorem k_sinN {X : Cx} {w : World} (e : X.w = w := by rfl) : OpR X (compareOp .In) (rSInN w false) := by subst e; exact or_sinN
theorem k_snotinN {X : Cx} {w : World} (e : X.w = w := by rfl) : OpR X (compareOp .NotIn) (rSInN w true) := by subst e; exact or_snotinN
theorem k_slU {X : Cx} {K : PySem.W.Frag} (e : X.K = K := by rfl) : SlR X (sOr (rSlL K) (rSlN K)) := by subst e; exact slr_or sl_list sl_tupN
theorem k_mtindex {X : Cx} {K : PySem.W.Frag} (e : X.K = K := by rfl) : MtR X "list.index" (rIndex K) := by subst e; exact mt_index
theorem k_bm {X : Cx} {K : PySem.W.Frag} {o e : Expr} {T : String} {name : Str} {r : V → List V → Hp → VK → Prop} {to : TE} {t : TA} {apos pos : Pos} (h : PE X (.Call (.Attribute o name apos) [e] [] pos) (tBM X.K T r to t)) (eK : X.K = K := by rfl) : PE X (.Call (.Attribute o name apos) [e] [] pos) (tBM K T r to t) := by subst eK; exact h
theorem k_revL {X : Cx} {K : PySem.W.Frag} {e : Expr} {te : TE} {k : Nat} {p1 p2 p3 pos : Pos} (he : PE X e te) (eK : X.K = K := by rfl) : PE X (.Subscript e (.Slice none none (some (.UnaryOp .USub (.Constant (.int 1) k p1) p2)) p3) pos) (tRevL K te) := by subst eK; exact pe_revL he
section
variable {K : PySem.W.Frag} {w : World} {te ta tb : TE} {a b e : Ev}
/-- the first place of a thing -/
def idxD (y : PD) : List PD → Nat → Option Nat
  | [], _ => none
  | d :: ds, k => if PyData.eqv d y then some k else idxD y ds (k + 1)
theorem idxD_at (y : PD) : ∀ {ds : List PD} {k j : Nat}, idxD y ds k = some j → k ≤ j ∧ (∃ z, ds[j - k]? = some z ∧ PyData.eqv z y = true) ∧ ∀ (m : Nat) (z : PD), m < j - k → ds[m]? = some z → PyData.eqv z y = false
  | [], _, _, h => by cases h
  | d :: ds, k, j, h => by
    unfold idxD at h
    split at h
    · rename_i c
      cases h
      exact ⟨Nat.le_refl _, ⟨d, by rw [Nat.sub_self]; rfl, c⟩, fun m z l => by omega⟩
    · rename_i c
      obtain ⟨h1, ⟨z, h2, h3⟩, h4⟩ := idxD_at y h
      refine ⟨by omega, ⟨z, ?_, h3⟩, fun m z' l e => ?_⟩
      · rw [show j - k = (j - (k + 1)) + 1 by omega]
        exact h2
      · cases m with
        | zero =>
          cases e
          cases q : PyData.eqv d y with
          | false => rfl
          | true => exact absurd q c
        | succ m => exact h4 m z' (by omega) (by simpa using e)
/-- xs.index(y) of flat things -/
def eIndex (a b : Ev) : Ev := fun ρ => match eDat a ρ with
  | some (.d x, ρ1) => match eSee b ρ1 with
    | some (y, ρ2) => match seqOf x with
      | some ds => if flatD y && ds.all flatD then (idxD y ds 0).map fun j => (.d (.int (j : Nat)), ρ2) else none
      | none => none
    | none => none
  | _ => none
/-- the receiver only read: a list of one's own -/
def eIndexO (i : Nat) (b : Ev) : Ev := fun ρ => match ρ[i]?, eSee b ρ with
  | some (.own _ _), some (y, ρ1) => match ρ1[i]? with
    | some (.own _ ds) => if flatD y && ds.all flatD then (idxD y ds 0).map fun j => (.d (.int (j : Nat)), ρ1) else none
    | _ => none
  | _, _ => none
theorem se_indexO {i : Nat} {u : TE} (hb : SE K w tb b) : SE K w (tEor (tBM K "list" (rIndex K) (tVar i) (tCons tb tNil)) u) (eIndexO i b) := fun ρ v ρ' he F0 H0 m F H σ S Q q => .inl (by
  unfold eIndexO at he
  split at he
  · rename_i b0 xs0 y ρ1 hi0 e1
    split at he
    · rename_i b1 ds hi
      split at he
      · rename_i l
        cases e2 : idxD y ds 0 with
        | none => rw [e2] at he; cases he
        | some j =>
          rw [e2] at he
          cases he
          rw [Bool.and_eq_true] at l
          obtain ⟨p, vs0, e3, _, h0, _⟩ := S.own (sts_at (w := w) hi0)
          refine ⟨_, e3, .inl ⟨rfl, vs0, .inl (.inl h0)⟩, se_see hb e1 S fun u F2 H2 g S2 o => ?_⟩
          obtain ⟨p', vs, e4, f, hp, dd⟩ := S2.own (sts_at (w := w) hi)
          rw [e3] at e4
          cases e4
          obtain ⟨_, ⟨z, h2, h3⟩, h4⟩ := idxD_at y e2
          have d3 := da_up S2.fh _ _ dd
          obtain ⟨v', g1, g2, g3⟩ := first_v d3 (o.dp S2.fh) l.1 l.2 (j := j) h2 h3 (fun m z l e => h4 m z (by omega) e)
          exact ⟨p, vs, u, j, v', rfl, rfl, .inl (.inl hp), by rw [flat_v (o.dp S2.fh)]; exact l.1, flats_v d3 l.2, g1, g2, g3, q _ F2 H2 g S2 (.int _)⟩
      · cases he
    · cases he
  · cases he)
theorem se_index (kt : KT K) (ha : SE K w ta a) (hb : SE K w tb b) : SE K w (tEor (tBM K "list" (rIndex K) ta (tCons tb tNil)) (tTIndex K ta (tCons tb tNil))) (eIndex a b) := fun ρ v ρ' he F0 H0 m F H σ S Q q => by
  unfold eIndex at he
  split at he
  · rename_i x ρ1 e1
    split at he
    · rename_i y ρ2 e2
      split at he
      · rename_i ds es
        split at he
        · rename_i l
          cases e3 : idxD y ds 0 with
          | none => rw [e3] at he; cases he
          | some j =>
            rw [e3] at he
            cases he
            rw [Bool.and_eq_true] at l
            obtain ⟨_, ⟨z, h2, h3⟩, h4⟩ := idxD_at y e3
            cases x with
            | list xs =>
              cases es
              refine .inl (se_dat ha ρ _ ρ1 e1 _ _ _ _ _ _ S _ fun u F2 H2 g S2 o => ?_)
              obtain ⟨p, vs, rfl, hs, hd⟩ := dp_list o
              refine ⟨.inl ⟨rfl, vs, S2.fh.seq hs⟩, se_see hb e2 S2 fun u2 F3 H3 g2 S3 o2 => ?_⟩
              have d3 := da_up (g2.ff.trans S3.fh) _ _ hd
              obtain ⟨v', g1, g2', g3⟩ := first_v d3 (o2.dp S3.fh) l.1 l.2 (j := j) h2 h3 (fun m z l e => h4 m z (by omega) e)
              exact ⟨p, vs, u2, j, v', rfl, rfl, (g2.ff.trans S3.fh).seq hs, by rw [flat_v (o2.dp S3.fh)]; exact l.1, flats_v d3 l.2, g1, g2', g3, q _ F3 H3 (g.trans g2) S3 (.int _)⟩
            | tuple xs =>
              cases es
              refine .inr (se_dat ha ρ _ ρ1 e1 _ _ _ _ _ _ S _ fun u F2 H2 g S2 o => ?_)
              obtain ⟨p, vs, rfl, hs, hd⟩ := dp_tuple o
              have n2 := S2.fz.n p
              refine ⟨?_, se_see hb e2 S2 fun u2 F3 H3 g2 S3 o2 => ?_⟩
              · rcases sqt_up S2.fh hs with (z | ⟨ob, z⟩) | ⟨ob, its, n, z, c, _⟩
                · exact absurd z (n2.1 vs)
                · exact ⟨p, rfl, .inl ⟨ob, vs, z, n2.2 ob vs z⟩⟩
                · exact ⟨p, rfl, .inr ⟨ob, z, c, kt p ob z c⟩⟩
              · have d3 := da_up (g2.ff.trans S3.fh) _ _ hd
                obtain ⟨v', g1, g2', g3⟩ := first_v d3 (o2.dp S3.fh) l.1 l.2 (j := j) h2 h3 (fun m z l e => h4 m z (by omega) e)
                exact ⟨p, vs, u2, j, v', rfl, rfl, sqt_up (g2.ff.trans S3.fh) hs, by rw [flat_v (o2.dp S3.fh)]; exact l.1, flats_v d3 l.2, g1, g2', g3, q _ F3 H3 (g.trans g2) S3 (.int _)⟩
            | _ => cases es
        · cases he
      · cases he
    · cases he
  · cases he
/-- xs[::-1], a list -/
def eRev (a : Ev) : Ev := fun ρ => match eSee a ρ with
  | some (.list ds, ρ1) => some (.new ds.reverse, ρ1)
  | _ => none
theorem se_rev (ha : SE K w ta a) : SE K w (tRevL K ta) (eRev a) := fun ρ v ρ' he F0 H0 m F H σ S Q q => by
  unfold eRev at he
  split at he
  · rename_i ds ρ1 e1
    cases he
    refine se_see ha e1 S fun u F2 H2 g S2 o => ?_
    obtain ⟨p, vs, rfl, sq, d⟩ := rdb_list o S2.fh
    exact ⟨p, vs, rfl, sq, fun p2 np => mk_new S2.fh np (da_rev d) fun u4 F4 H4 st o4 => q u4 F4 H4 (g.trans (.of0 st)) (S2.up0 st) (o4.any.fromG g)⟩
  · cases he
end
/-! ## defs -/
section
variable {P : Program} {w : World} {K : PySem.W.Frag} {mg : Str → Option Value} {base : Heap}
theorem mk_def {x qual : Str} {st : Stmt} {f : Addr} {fd : FuncData} {N ps : List Str} {k n np : Nat} {sv : Sv} (F : Fun K x qual st f fd) (S : FnScope N ps (defScope st)) (hn : N.length = n) (hp : ps.length = np)
    (hb : ∀ (cdv : Value), PySem.W.kdsCode K cdv = true → ∀ (A : Around) (outer : List Env) (s : Shared) (H : Hp) (E : XK), A.guards = some [] → Room k (A.deeper (PyProof.Rows.envOfC qual (defScope st) s.heap.objs.size f cdv)) →
      ∃ t, PSs (cxOf CX0 P w K mg base N qual (defScope st) f cdv A outer s H E).nox (defBody st) t ∧ SS K w t sv) : FnG P w K mg base (k + 1) f fd ps (spF K np (fnOf n np sv)) := by
  subst hn
  refine fun_okG F S (fun vs H Q E h => h.1.trans hp.symm) fun cdv hcd A outer s H vs Q E hgd hr h => ?_
  obtain ⟨t, d, ss⟩ := hb cdv (kds_of_code hcd) A outer s H E hgd hr
  exact ⟨t, d, ss_def ss h⟩
theorem fnOf_len {n np : Nat} {sv : Sv} : ∀ ars r, fnOf n np sv ars = some r → ars.length = np := fun ars r h => by
  unfold fnOf at h
  split at h
  · assumption
  · cases h
/-! def f(a, b, *rest) -/
def FnRG (P : Program) (w : World) (K : PySem.W.Frag) (mg : Str → Option Value) (base : Heap) (k : Nat) (f : Addr) (sp : Sp) : Prop :=
  ∀ (A : Around), A.guards = some [] → ∀ (outer : List Env) (s : Shared) (H : Hp) (us : List Value) (vs : List V) (Q : VK) (E : XK), Room k A → Env0 P w K mg base A outer s H → Vals vs us → sp vs H Q E → codeAny (model P w) A (.call (.ref f) ⟨us, []⟩) (CR CX0 outer P w H s Q E) s
def spS2 (K : PySem.W.Frag) (f : Fn) : Sp := fun vs H Q _ => ∃ F d1 d2 l v, f [.d d1, .d d2, .d (.tuple l)] = some (v, []) ∧ l.length ≤ 100000 ∧ Fz F H ∧ DpAll K F vs (d1 :: d2 :: l) ∧ ∀ u F2 H2, Stp m0 F H F2 H2 → VOk K [] H F2 H2 u v → Q u H2
theorem starG {k n : Nat} {f : Addr} {name qual : Str} {params : Arguments} {body : List Stmt} {scope : Scope} {dV kV doc pm cdv ct oc : Value} {an od : Option Addr} {osl : Array (Option Value)} {N : List Str} {p1 p2 pv : Str} {sv : Sv}
    (lk : K.lookup f = some ⟨oc, od, .func (PySem.W.fnOf name qual params body scope dV kV doc pm an cdv ct), osl⟩) (hcd : PySem.W.codeIn K cdv qual = true) (S : FnScope N [p1, p2, pv] scope) (hn : N.length = n)
    (hb : ∀ us rest : List Value, us.length = [p1, p2].length → bindArgs (PySem.W.fnOf name qual params body scope dV kV doc pm an cdv ct) ⟨us ++ rest, []⟩ = (newTuple rest >>= fun t => pure ([p1, p2].zip us ++ [(pv, t)])))
    (hbody : ∀ (A : Around) (outer : List Env) (s : Shared) (H : Hp) (E : XK), A.guards = some [] → Room k (A.deeper (envOfC qual scope s.heap.objs.size f cdv)) →
      ∃ t, PSs (cxOf CX0 P w K mg base N qual scope f cdv A outer s H E).nox body t ∧ SS K w t sv) :
    FnRG P w K mg base (k + 1) f (spS2 K (fnOf n 3 sv)) := by
  subst hn
  intro A hg outer s H us vs Q E room e0 rel ⟨F, d1, d2, l, v, ef, ll, fz, hd, q⟩
  obtain ⟨v1, v2, rest, rfl, h1, h2, hl⟩ : ∃ v1 v2 rest, vs = v1 :: v2 :: rest ∧ Dp K F v1 d1 ∧ Dp K F v2 d2 ∧ DpAll K F rest l := by
    cases hd with
    | cons h1 hd =>
      cases hd with
      | cons h2 hl => exact ⟨_, _, _, rfl, h1, h2, hl⟩
  obtain ⟨u1, u2, u3, rfl, r1, r2, rr⟩ : ∃ u1 u2 u3, us = u1 :: u2 :: u3 ∧ RelV v1 u1 ∧ RelV v2 u2 ∧ Vals rest u3 := by
    cases rel with
    | cons r1 rel =>
      cases rel with
      | cons r2 rr => exact ⟨_, _, _, rfl, r1, r2, rr⟩
  have len : rest.length ≤ sizeLine := by rw [da_len hl]; exact small_line ll
  have free : H s.heap.objs.size = none := e0.hok.fresh (Nat.le_refl _)
  have l3 : u3.length ≤ sizeLine := by rw [← rr.length]; exact len
  refine StX.run_bnd lk hcd S room e0 (G := fun xs H2 => ∃ p o, H p = none ∧ o.dict = none ∧ xs = [v1, v2, V.ref p] ∧ H2 = upd H p (.frz o (.tup rest))) (fun A' Ex Q' h => ?_) fun s2 H2 xs ⟨p, o, hp, ho, ex, eH⟩ room' => ?_
  · have b := hb [u1, u2] u3 rfl
    rw [show u1 :: u2 :: u3 = [u1, u2] ++ u3 from rfl, b]
    refine wpAny_bind (wpAny_newTuple (wpAny_pure ?_) l3)
    let ob : Obj := { cls := .type "tuple", data := .seq u3.toArray }
    have got : (s.heap.push ob).get? s.heap.objs.size = some ob := Heap.get?_push_size _ rfl
    have new : ObjOk P w (upd H s.heap.objs.size (.frz ob (.tup rest))) (s.heap.push ob) s.heap.objs.size (.frz ob (.tup rest)) := ⟨got, len, u3, rr, ⟨_, got, rfl, _, rfl⟩⟩
    have un := StX.un_laid (fs := frs outer) (s := s) (o := ob) (u := .frz ob (.tup rest)) free
    exact h _ _ [v1, v2, V.ref s.heap.objs.size] [u1, u2, Value.ref s.heap.objs.size] (StX.env0_laid e0 new) un rfl (fun _ _ z => z) (.cons r1 (.cons r2 (.cons rfl .nil))) rfl ⟨_, ob, free, rfl, rfl, rfl⟩
  · subst ex eH
    have st : Stp m0 F H (upd F p (.frz o (.tup rest))) (upd H p (.frz o (.tup rest))) := .frz fz.s hp (ok_tup ho)
    have up := same_new (o := HO.frz o (.tup rest)) (fz.s.free hp)
    obtain ⟨t, hder, ss⟩ := hbody A outer s2 (upd H p (.frz o (.tup rest))) E hg room'
    refine ⟨t, hder.nox, ss_def (w := w) (E := E) (np := 3) ss ⟨rfl, upd F p (.frz o (.tup rest)), [.d d1, .d d2, .d (.tuple l)], v, [], ef, ⟨st.fh, st.nd fz.n⟩, .d (dp_up up _ _ h1) (.d (dp_up up _ _ h2) (.d (Dp.tup (.inl (.inr ⟨o, upd_same⟩)) (da_up up _ _ hl)) .nil)), fun i j xs ys a ij e1 _ _ => ?_, fun u F2 H2 s3 _ ov => ?_⟩⟩
    · match i, e1 with
      | 0, e1 => cases e1
      | 1, e1 => cases e1
      | 2, e1 => cases e1
    · have s4 : Stp m0 (upd F p (.frz o (.tup rest))) (upd H p (.frz o (.tup rest))) F2 H2 := s3.mono0 fun a ⟨i, xs, e1, _⟩ => by
        match i, e1 with
        | 0, e1 => cases e1
        | 1, e1 => cases e1
        | 2, e1 => cases e1
      exact q u F2 H2 (st.trans s4) (ov.from st.hn)
theorem mk_star {x qual : Str} {st : Stmt} {f : Addr} {fd : FuncData} {k n : Nat} {N : List Str} {p1 p2 pv : Str} {sv : Sv} (F : Fun K x qual st f fd) (S : FnScope N [p1, p2, pv] (defScope st)) (hn : N.length = n)
    (hb : ∀ (kV doc pm : Value) (an : Option Addr) (cdv ct : Value) (us rest : List Value), us.length = [p1, p2].length → bindArgs (PySem.W.fnOf x qual (defArgs st) (defBody st) (defScope st) .none kV doc pm an cdv ct) ⟨us ++ rest, []⟩ = (newTuple rest >>= fun t => pure ([p1, p2].zip us ++ [(pv, t)])))
    (hbody : ∀ (cdv : Value), PySem.W.kdsCode K cdv = true → ∀ (A : Around) (outer : List Env) (s : Shared) (H : Hp) (E : XK), A.guards = some [] → Room k (A.deeper (envOfC qual (defScope st) s.heap.objs.size f cdv)) →
      ∃ t, PSs (cxOf CX0 P w K mg base N qual (defScope st) f cdv A outer s H E).nox (defBody st) t ∧ SS K w t sv) :
    FnRG P w K mg base (k + 1) f (spS2 K (fnOf n 3 sv)) := by
  obtain ⟨_, _, _, _, _, _, cdv, _, _, e0, lk, hcd⟩ := F.ex
  subst e0
  exact starG lk hcd S hn (hb _ _ _ _ _ _) (hbody cdv (kds_of_code hcd))
end
section
variable {X : Cx} {k : Nat} {f : Addr} {sp : Sp} {x : Str} {p pos : Pos} {e : Expr} {es : List Expr} {t : TA}
theorem pe_callRG (F : FnRG X.prog X.w X.K X.mg X.base k f sp) (hgd : X.A.guards = some []) (hr : Room k X.A) (hg : Gl X x) (hm : X.mg x = some (.ref f)) (hk : PySem.W.keepIn X.K (.ref f) = true)
    (args : PA X (e :: es) t) (hdb : (x == ("__debug__" : Str)) = false := by decide) (he : starEach (e :: es) X.env = (false, eval e X.env) :: starEach es X.env := by rfl) (hpl : (backTo pos (starEach es X.env)).any (·.1) = false := by rfl) :
    PE X (.Call (.Name x p) (e :: es) [] pos) (tCallR sp t) :=
  ⟨fun pins s σ H Q I h => wpAny_Call_Name_kw (ld_glob I hg hm (PySem.W.callWith_K (h₀ := X.base) I.ok.mod.kin hk (thn (args.run pos pins s σ H _ I h) fun us s1 ⟨vs, H1, I1, r, q⟩ => ⟨I1.kIn, wpAny_call (codeAny_mono (F X.A hgd X.stack s1 H1 us vs Q E0 hr I1.env0 r q) fun out s' got => (by
      match out, got with
      | .ok (.ret u), q => exact I1.after q
      | .error _, q => exact q.elim))⟩) he hpl) hdb)⟩
end
section
variable {K : PySem.W.Frag} {w : World} {tz : TA} {f : Fn} {as : Av}
def eStar2 (f : Fn) (as : Av) : Ev := fun ρ => match aDs as ρ with
  | some (d1 :: d2 :: l, ρ1) => if l.length ≤ 100000 then (match f [.d d1, .d d2, .d (.tuple l)] with
      | some (v, []) => some (v, ρ1)
      | _ => none) else none
  | _ => none
theorem se_star2 (h : SA K w tz as) : SE K w (tCallR (spS2 K f) tz) (eStar2 f as) := fun ρ v ρ' he F0 H0 m F H σ S Q q => by
  unfold eStar2 at he
  split at he
  · rename_i d1 d2 l ρ1 e1
    split at he
    · rename_i ll
      split at he
      · rename_i v' ef
        cases he
        refine sa_ds h e1 S fun us F2 H2 g S2 d => ⟨F2, d1, d2, l, v, ef, ll, S2.fz, d, fun u F3 H3 st o => q u F3 H3 (g.trans (.of0 st)) (S2.up0 st) (o.any.fromG g)⟩
      · cases he
    · cases he
  · cases he
end
end MU

namespace MU
open PySem PySem.Spec PyProof.Rows L2
open PySem.W (codeIn)
section
variable {K : PySem.W.Frag} {w : World}
/-- a text alone -/
theorem ss_doc {z : Str} : SS K w (tDrop (tC (.str z))) sNext := fun ρ fl ρ' he F0 H0 m F H σ S D q => by cases he; exact q F H σ (Same.refl F) S (.refl _ _)
/-! the law itself -/
def spLaw (K : PySem.W.Frag) : Sp := fun vs H Q _ => ∃ (a : Addr) (ns : List Int), vs = [.ref a] ∧ SqL K H a (ns.map V.int) ∧ ns.length ≤ 63 ∧ NoD H ∧ ∀ H', Q (.bl true) H'
theorem law_sp {f : Fn} (h : ∀ ns : List Int, ns.length ≤ 63 → f [.d (.list (ns.map .int))] = some (.d (.bool true), [])) {vs : List V} {H : Hp} {Q : VK} {E : XK} (s : spLaw K vs H Q E) : spF K 1 f vs H Q E := by
  obtain ⟨a, ns, rfl, sq, l, nd, q⟩ := s
  refine ⟨rfl, H, [.d (.list (ns.map .int))], .d (.bool true), [], h ns l, ⟨Same.refl H, nd⟩, .d (.lst sq (da_ints ns)) .nil, fun i j xs ys p ij e1 _ _ => ?_, fun u F2 H2 _ _ o => ?_⟩
  · match i, e1 with
    | 0, e1 => cases e1
  · rw [dp_bool o]
    exact q H2
theorem FnG.imp {P : Program} {w : World} {K : PySem.W.Frag} {mg : Str → Option Value} {base : Heap} {k : Nat} {f : Addr} {fd : FuncData} {ps : List Str} {sp sp' : Sp} (F : FnG P w K mg base k f fd ps sp) (h : ∀ vs H Q E, sp' vs H Q E → sp vs H Q E) : FnG P w K mg base k f fd ps sp' :=
  ⟨fun vs H Q E q => F.len vs H Q E (h _ _ _ _ q), fun A hg outer s H args us vs Q E hr e0 hb r q => F.run A hg outer s H args us vs Q E hr e0 hb r (h _ _ _ _ q)⟩
end
section
variable {X : Cx} {k : Nat} {f : Addr} {fd : FuncData} {ps : List Str} {sp : Sp} {x : Str} {p pos : Pos}
theorem pe_callG0 (F : FnG X.prog X.w X.K X.mg X.base k f fd ps sp) (hgd : X.A.guards = some []) (hr : Room k X.A) (hg : Gl X x) (hm : X.mg x = some (.ref f)) (hk : PySem.W.keepIn X.K (.ref f) = true) (hb : Binds X.K fd ps [])
    (hdb : (x == ("__debug__" : Str)) = false := by decide) : PE X (.Call (.Name x p) [] [] pos) (tCall sp [] E0 tNil) := by
  refine ⟨fun pins s σ H Q I h => ?_⟩
  refine wpAny_Call_Name_kw (ld_glob I hg hm ?_ hdb)
  exact PySem.W.callWith_K0 I.kIn hk (run_fnG (E := E0) (us := []) F hgd hr hb I .nil h)
end
/-! the posts directly below each post: the one def that changes a list in a list -/
def natsOf : List PD → Option (List Nat)
  | [] => some []
  | .int i :: ds => if 0 ≤ i then (natsOf ds).map (i.toNat :: ·) else none
  | _ :: _ => none
theorem natsOf_eq : ∀ {ds : List PD} {ns : List Nat}, natsOf ds = some ns → ds = ns.map fun n : Nat => .int n
  | [], _, e => by cases e; rfl
  | .int i :: ds, _, e => by
    unfold natsOf at e
    split at e
    · rename_i l
      cases e1 : natsOf ds with
      | none => rw [e1] at e; cases e
      | some ms => rw [e1] at e; cases e; rw [natsOf_eq e1, List.map_cons, Int.toNat_of_nonneg l]
    · cases e
  | .none :: _, _, e => by cases e
  | .bool _ :: _, _, e => by cases e
  | .str _ :: _, _, e => by cases e
  | .list _ :: _, _, e => by cases e
  | .tuple _ :: _, _, e => by cases e
  | .dict _ :: _, _, e => by cases e
theorem natsOf_map : ∀ ns : List Nat, natsOf (ns.map fun n : Nat => PyData.int n) = some ns
  | [] => rfl
  | n :: ns => by
    show (if (0 : Int) ≤ (n : Int) then (natsOf (ns.map fun n : Nat => PyData.int n)).map ((n : Int).toNat :: ·) else none) = _
    rw [if_pos (Int.natCast_nonneg n), natsOf_map ns]
    simp
/-- every post's above stands ahead of it -/
def chartB : Nat → List Nat → Bool
  | _, [] => true
  | k, p :: t => decide (p ≤ k) && chartB (k + 1) t
theorem chartB_at : ∀ {t : List Nat} {k : Nat}, chartB k t = true ↔ ∀ j p : Nat, t[j]? = some p → p ≤ k + j
  | [], k => ⟨fun _ j p e => by simp at e, fun _ => rfl⟩
  | q :: t, k => by
    unfold chartB
    rw [Bool.and_eq_true, decide_eq_true_eq, chartB_at]
    constructor
    · rintro ⟨h1, h2⟩ j p e
      cases j with
      | zero => cases e; exact h1
      | succ j => have := h2 j p (by simpa using e); omega
    · intro h
      refine ⟨h 0 q rfl, fun j p e => ?_⟩
      have := h (j + 1) p (by simpa using e)
      omega
theorem chartB_iff {t : List Nat} : chartB 0 t = true ↔ Chart t := chartB_at.trans ⟨fun h k p e => by have := h k p e; omega, fun h k p e => by have := h k p e; omega⟩
def f_posts_under : Fn := fun ars => match ars with
  | [.d (.tuple (.none :: ds))] => match natsOf ds with
    | some t => if chartB 0 t = true ∧ t.length < 1000 then some (.d (.list ((kidsL t (t.length + 1)).map .list)), []) else none
    | none => none
  | _ => none
theorem mk_under {P : Program} {w : World} {K : PySem.W.Frag} {mg : Str → Option Value} {base : Heap} {x qual : Str} {st : Stmt} {f : Addr} {fd : FuncData} {N ps : List Str} {k : Nat} (F : Fun K x qual st f fd) (S : FnScope N ps (defScope st)) (hn : N.length = 3) (hp : ps.length = 1)
    (hb : ∀ (cdv : Value), PySem.W.kdsCode K cdv = true → ∀ (A : Around) (outer : List Env) (s : Shared) (H : Hp) (E : XK), A.guards = some [] → Room k (A.deeper (PyProof.Rows.envOfC qual (defScope st) s.heap.objs.size f cdv)) →
      ∃ t, PSs (cxOf CX0 P w K mg base N qual (defScope st) f cdv A outer s H E).nox (defBody st) t ∧ t = (tSeq (tAsg (tLc (iTup K (tVar 0)) (gName 2) tYes (tLst tNil) [2]) (gName 1))
      (tSeq (tFor (iRng2 (tCons (tC (.int 1)) (tCons (tCB (rLen K) (tCons (tVar 0) tNil)) tNil))) (gName 2)
        (tDrop (tBM K "list" rAppend (tOp (rIxL K) (tVar 1) (tOp (rIxT K) (tVar 0) (tVar 2))) (tCons (tVar 2) tNil)))) (tRet (tVar 1))))) : FnG P w K mg base (k + 1) f fd ps (spF K 1 f_posts_under) := by
  refine fun_okG F S (fun vs H Q E h => h.1.trans hp.symm) fun cdv hcd A outer s H vs Q E hgd hr h => ?_
  obtain ⟨t, d, e⟩ := hb cdv (kds_of_code hcd) A outer s H E hgd hr
  refine ⟨t, d, ?_⟩
  subst e
  obtain ⟨lv, F1, ars, v, ms, ef, z, a, _, q⟩ := h
  unfold f_posts_under at ef
  split at ef
  rotate_left
  · cases ef
  rename_i ds
  split at ef
  rotate_left
  · cases ef
  rename_i t e1
  split at ef
  rotate_left
  · cases ef
  rename_i c
  cases ef
  have e2 := natsOf_eq e1
  cases a with
  | d h1 t1 =>
    cases t1
    rename_i u
    have hs : L2.start N [u] = [some u, none, none] := by
      unfold L2.start
      rw [hn]
      rfl
    rw [hs]
    have h2 : Dp K F1 u (chartD t) := by
      unfold chartD
      rw [← e2]
      exact h1
    refine under_run z h2 (chartB_iff.mp c.1) c.2 fun v F2 H2 s2 dp => q v F2 H2 (s2.wk) ?_ dp
    exact .d .nil
end MU

namespace MU
open PySem PySem.Spec PyProof.Rows L2
open PySem.W (EachIs)
def cOr (r r2 : List V → Hp → VK → Prop) : List V → Hp → VK → Prop := fun xs H Q => r xs H Q ∨ r2 xs H Q
theorem cr_or {X : Cx} {f : Value} {r r2 : List V → Hp → VK → Prop} (h : CallR X f r) (h2 : CallR X f r2) : CallR X f (cOr r r2) := by
  intro pins s σ H xs us Q I rv z
  rcases z with z | z
  · exact h _ _ _ _ _ _ _ I rv z
  · exact h2 _ _ _ _ _ _ _ I rv z
/-! ## pairs of ints in their order -/
theorem lessP_iff {a b : Int × Int} : lessP a b = true ↔ a.1 < b.1 ∨ (a.1 = b.1 ∧ a.2 < b.2) := by
  unfold lessP
  rw [Bool.or_eq_true, Bool.and_eq_true, decide_eq_true_eq, decide_eq_true_eq, decide_eq_true_eq]
def insP (a : Int × Int) : List (Int × Int) → List (Int × Int)
  | [] => [a]
  | b :: l => if lessP b a then b :: insP a l else a :: b :: l
def sortP : List (Int × Int) → List (Int × Int)
  | [] => []
  | a :: l => insP a (sortP l)
def leP (a b : Int × Int) : Prop := lessP b a = false
theorem leP_iff {a b : Int × Int} : leP a b ↔ a.1 < b.1 ∨ (a.1 = b.1 ∧ a.2 ≤ b.2) := by
  unfold leP
  cases h : lessP b a with
  | true =>
    rw [lessP_iff] at h
    exact ⟨fun z => (by cases z), fun z => absurd z (by omega)⟩
  | false =>
    have h' : ¬ (b.1 < a.1 ∨ (b.1 = a.1 ∧ b.2 < a.2)) := fun z => by rw [lessP_iff.mpr z] at h; cases h
    exact ⟨fun _ => by omega, fun _ => rfl⟩
theorem insP_perm (a : Int × Int) : ∀ l, (insP a l).Perm (a :: l)
  | [] => .refl _
  | b :: l => by
    unfold insP
    split
    · exact ((insP_perm a l).cons b).trans (.swap a b l)
    · exact .refl _
theorem sortP_perm : ∀ l, (sortP l).Perm l
  | [] => .refl _
  | a :: l => (insP_perm a _).trans ((sortP_perm l).cons a)
theorem insP_sorted (a : Int × Int) : ∀ l : List (Int × Int), l.Pairwise leP → (insP a l).Pairwise leP
  | [], _ => List.pairwise_singleton _ _
  | b :: l, h => by
    unfold insP
    have hb := List.pairwise_cons.mp h
    split
    · rename_i c
      refine List.pairwise_cons.mpr ⟨fun x hx => ?_, insP_sorted a l hb.2⟩
      rcases List.mem_cons.mp ((insP_perm a l).mem_iff.mp hx) with rfl | hx
      · rw [leP_iff]
        have := lessP_iff.mp c
        omega
      · exact hb.1 x hx
    · rename_i c
      have c' : leP a b := by
        unfold leP
        cases q : lessP b a with
        | false => rfl
        | true => exact absurd q c
      refine List.pairwise_cons.mpr ⟨fun x hx => ?_, h⟩
      rcases List.mem_cons.mp hx with rfl | hx
      · exact c'
      · have := hb.1 x hx
        rw [leP_iff] at this c' ⊢
        omega
theorem sortP_sorted : ∀ l : List (Int × Int), (sortP l).Pairwise leP
  | [] => .nil
  | a :: l => insP_sorted a _ (sortP_sorted l)
theorem sortP_uniq {l l' : List (Int × Int)} (hp : l'.Perm l) (hs : l'.Pairwise leP) : l' = sortP l :=
  List.Perm.eq_of_pairwise (le := leP) (fun a b _ _ h h' => by
    rw [leP_iff] at h h'
    exact Prod.ext (by omega) (by omega)) hs (sortP_sorted l) (hp.trans (sortP_perm l).symm)
theorem merge_pr (bs : List (Int × Int)) : bs.mergeSort (PySem.W.dataLe false prI) = sortP bs := by
  refine sortP_uniq (List.mergeSort_perm ..) ?_
  have e : PySem.W.dataLe false prI = fun p q : Int × Int => decide (p.1 < q.1 ∨ (p.1 = q.1 ∧ p.2 ≤ q.2)) := PySem.W.dataLe_ii (fun p : Int × Int => p.1) fun p => p.2
  rw [e]
  have s := List.pairwise_mergeSort (le := fun p q : Int × Int => decide (p.1 < q.1 ∨ (p.1 = q.1 ∧ p.2 ≤ q.2))) (fun a b c h1 h2 => by
    have h1 := of_decide_eq_true h1
    have h2 := of_decide_eq_true h2
    exact decide_eq_true (by omega)) (fun a b => by
    rw [Bool.or_eq_true, decide_eq_true_eq, decide_eq_true_eq]
    omega) bs
  exact s.imp fun {a b} h => leP_iff.mpr (of_decide_eq_true h)
/-- sorted(xs) of pairs of ints: the same items in their order -/
def rSortedP (K : PySem.W.Frag) : List V → Hp → VK → Prop := fun us H Q => ∃ (a : Addr) (xs : List V) (bs : List (Int × Int)), us = [.ref a] ∧ SqL K H a xs ∧ DpAll K H xs (bs.map prI) ∧
  ∀ (p : Addr) (ys : List V), H p = none → (∀ F : Hp, DpAll K F xs (bs.map prI) → DpAll K F ys ((sortP bs).map prI)) → Q (.ref p) (upd H p (.lst ys))
theorem each_of {K : PySem.W.Frag} {xs0 : List V} {bs0 : List (Int × Int)} : ∀ {xs : List V} {us : List Value} {bs : List (Int × Int)}, Vals xs us → xs.length = bs.length → (∀ F : Hp, DpAll K F xs0 (bs0.map prI) → DpAll K F xs (bs.map prI)) →
    EachIs (fun v b => ∃ x, RelV x v ∧ ∀ F : Hp, DpAll K F xs0 (bs0.map prI) → Dp K F x (prI b)) us bs
  | [], _, [], .nil, _, _ => .nil
  | x :: xs, _, b :: bs, .cons r t, l, h => .cons ⟨x, r, fun F d => by
      have := h F d
      cases this with
      | cons a _ => exact a⟩ (each_of t (by simpa using l) fun F d => by
      have := h F d
      cases this with
      | cons _ a => exact a)
  | [], _, _ :: _, _, l, _ => by cases l
  | _ :: _, _, [], _, l, _ => by cases l
theorem each_back {K : PySem.W.Frag} {xs0 : List V} {bs0 : List (Int × Int)} : ∀ {us : List Value} {bs : List (Int × Int)}, EachIs (fun v b => ∃ x, RelV x v ∧ ∀ F : Hp, DpAll K F xs0 (bs0.map prI) → Dp K F x (prI b)) us bs →
    ∃ ys, Vals ys us ∧ ∀ F : Hp, DpAll K F xs0 (bs0.map prI) → DpAll K F ys (bs.map prI)
  | _, _, .nil => ⟨[], .nil, fun _ _ => .nil⟩
  | _, _, .cons ⟨x, r, d⟩ t => by
    obtain ⟨ys, h1, h2⟩ := each_back t
    exact ⟨x :: ys, .cons r h1, fun F z => .cons (d F z) (h2 F z)⟩
section
variable {X : Cx}
theorem cr_sortedP (hu : X.A.units + 64 < cLine) : CallR X (.builtin "sorted") (rSortedP X.K) := by
  intro pins s σ H us vs Q I r ⟨a, xs, bs, e, hs, hd, q⟩
  subst e
  rw [Vals.ref1 r]
  obtain ⟨its, rv, hl, hz⟩ := I.list hs
  obtain ⟨as, rd⟩ := Dp.readsAll I (bs.map prI) xs its hd rv
  have ly : xs.length = bs.length := by rw [da_len hd, List.length_map]
  have e1 := each_of (K := X.K) (xs0 := xs) (bs0 := bs) rv ly fun F d => d
  have er : EachIs (fun v b => ∃ as, Reads s.heap v (prI b) as) its bs := PySem.W.readsAll_each prI rd
  refine PySem.W.sorted_data (vs := its) (enc := prI) hl.isList e1 er (PySem.W.AllAlike.of fun b b' => by rfl) (PySem.W.Sortable.tuples fun b => ⟨_, _, rfl⟩) (by rw [← ly]; exact hz) (fun b _ => ?_) fun out lo eo => ?_
  · have : (prI b).depth = 1 := rfl
    omega
  · rw [merge_pr] at eo
    obtain ⟨ys, vy, hy⟩ := each_back eo
    obtain ⟨ee, he⟩ := sortedAll_at s.heap its out.toArray
    have ln : ys.length ≤ sizeLine := by
      have h1 := vy.length
      have h2 := hz
      omega
    refine ⟨.ref (s.heap.objs.size + 1), upd H (s.heap.objs.size + 1) (.lst ys), I.laid (t' := s.toks) (fun b o eb => sortedAll_old eb) (Nat.le_succ _) ⟨ln, out, ee, vy, ?_⟩, rfl, q _ ys (I.hok.fresh (Nat.le_succ _)) hy⟩
    exact he
end
section
variable {K : PySem.W.Frag} {w : World} {F H : Hp} {te ta tb : TE} {a b e : Ev}
/-- all of them pairs of ints -/
def pairsOf : List PD → Option (List (Int × Int))
  | [] => some []
  | .tuple [.int i, .int j] :: ds => (pairsOf ds).map ((i, j) :: ·)
  | _ :: _ => none
theorem pairsOf_eq : ∀ {ds : List PD} {bs : List (Int × Int)}, pairsOf ds = some bs → ds = bs.map prI
  | [], _, e => by cases e; rfl
  | d :: ds, bs, e => by
    unfold pairsOf at e
    split at e
    · rename_i hd
      cases hd
    · rename_i i j ds' hd
      cases hd
      cases e1 : pairsOf ds with
      | none => rw [e1] at e; cases e
      | some r => rw [e1] at e; cases e; rw [pairsOf_eq e1]; rfl
    · cases e
theorem pairsOf_map : ∀ bs : List (Int × Int), pairsOf (bs.map prI) = some bs
  | [] => rfl
  | b :: bs => by
    show (pairsOf (bs.map prI)).map ((b.1, b.2) :: ·) = _
    rw [pairsOf_map bs]
    rfl
def fSortedU : List PD → Option Vl
  | [.list ds] => match intsOf ds with
    | some ns => some (.new ((sortI ns).map .int))
    | none => (pairsOf ds).map fun bs => .new ((sortP bs).map prI)
  | _ => none
theorem cb_sortedU : CbS K (cOr (rSortedI K) (rSortedP K)) fSortedU := fun F H us ds z fz h e Q q => by
  unfold fSortedU at e
  split at e
  · rename_i xs
    obtain ⟨u, rfl, o⟩ := rd1 h
    cases e1 : intsOf xs with
    | some ns =>
      rw [e1] at e
      cases e
      rw [intsOf_eq e1] at o
      obtain ⟨a, vs, rfl, sq, d⟩ := rdb_list o fz.s
      rw [ints_da d] at sq
      exact .inl ⟨a, ns, rfl, sq, fun ns' p h1 h2 np => by rw [sortI_uniq h1 h2]; exact mk_new fz.s np (da_ints _) q⟩
    | none =>
      rw [e1] at e
      dsimp only at e
      cases e2 : pairsOf xs with
      | none => rw [e2] at e; cases e
      | some bs =>
        rw [e2] at e
        cases e
        rw [pairsOf_eq e2] at o
        obtain ⟨a, vs, rfl, sq, d⟩ := rdb_list o fz.s
        exact .inr ⟨a, vs, bs, rfl, sq, da_up fz.s _ _ d, fun p ys np hy => mk_new fz.s np (hy F d) q⟩
  · cases e
theorem k_sortedU {X : Cx} (hu : X.A.units + 64 < cLine) (e : X.K = K := by rfl) : CallR X (.builtin "sorted") (cOr (rSortedI K) (rSortedP K)) := by subst e; exact cr_or cr_sortedI (cr_sortedP hu)
/-! max, min of a list -/
def maxI (z : Int) (l : List Int) : Int := l.foldl max z
def minI (z : Int) (l : List Int) : Int := l.foldl min z
theorem maxI_is : ∀ (l : List Int) (z : Int), maxI z l ∈ z :: l ∧ ∀ y ∈ z :: l, y ≤ maxI z l
  | [], z => ⟨List.mem_cons_self, fun y h => by rw [List.mem_singleton.mp h]; exact Int.le_refl _⟩
  | x :: l, z => by
    obtain ⟨h1, h2⟩ := maxI_is l (max z x)
    refine ⟨?_, fun y hy => ?_⟩
    · show maxI (max z x) l ∈ _
      rcases List.mem_cons.mp h1 with h | h
      · rw [h]
        rcases Int.le_total z x with c | c
        · rw [Int.max_eq_right c]; exact List.mem_cons_of_mem _ List.mem_cons_self
        · rw [Int.max_eq_left c]; exact List.mem_cons_self
      · exact List.mem_cons_of_mem _ (List.mem_cons_of_mem _ h)
    · show y ≤ maxI (max z x) l
      have top := h2 _ List.mem_cons_self
      rcases List.mem_cons.mp hy with rfl | hy
      · omega
      · rcases List.mem_cons.mp hy with rfl | hy
        · omega
        · exact h2 y (List.mem_cons_of_mem _ hy)
theorem minI_is : ∀ (l : List Int) (z : Int), minI z l ∈ z :: l ∧ ∀ y ∈ z :: l, minI z l ≤ y
  | [], z => ⟨List.mem_cons_self, fun y h => by rw [List.mem_singleton.mp h]; exact Int.le_refl _⟩
  | x :: l, z => by
    obtain ⟨h1, h2⟩ := minI_is l (min z x)
    refine ⟨?_, fun y hy => ?_⟩
    · show minI (min z x) l ∈ _
      rcases List.mem_cons.mp h1 with h | h
      · rw [h]
        rcases Int.le_total z x with c | c
        · rw [Int.min_eq_left c]; exact List.mem_cons_self
        · rw [Int.min_eq_right c]; exact List.mem_cons_of_mem _ List.mem_cons_self
      · exact List.mem_cons_of_mem _ (List.mem_cons_of_mem _ h)
    · show minI (min z x) l ≤ y
      have top := h2 _ List.mem_cons_self
      rcases List.mem_cons.mp hy with rfl | hy
      · omega
      · rcases List.mem_cons.mp hy with rfl | hy
        · omega
        · exact h2 y (List.mem_cons_of_mem _ hy)
def fMaxU : List PD → Option Vl
  | [.list ds] => match intsOf ds with
    | some (z :: l) => some (.d (.int (maxI z l)))
    | _ => none
  | _ => none
theorem cb_maxU : CbS K (rMax K) fMaxU := fun F H us ds z fz h e Q q => by
  unfold fMaxU at e
  split at e
  · rename_i xs
    split at e
    · rename_i z l e1
      cases e
      obtain ⟨u, rfl, o⟩ := rd1 h
      rw [intsOf_eq e1] at o
      obtain ⟨a, vs, rfl, sq, d⟩ := rdb_list o fz.s
      rw [ints_da d] at sq
      refine ⟨a, z :: l, rfl, sq, Nat.succ_pos _, fun m hm hle => ?_⟩
      obtain ⟨h1, h2⟩ := maxI_is l z
      rw [show m = maxI z l from Int.le_antisymm (h2 m hm) (hle _ h1)]
      exact mk_sc fz.s (.int _) q
    · cases e
  · cases e
def fMinU : List PD → Option Vl
  | [.list ds] => match intsOf ds with
    | some (z :: l) => some (.d (.int (minI z l)))
    | some [] => none
    | none => match pairsOf ds with
      | some (z :: l) => some (.d (prI (minP z l)))
      | _ => none
  | _ => none
theorem cb_minU : CbS K (cOr (rMin K) (rMinP K)) fMinU := fun F H us ds z fz h e Q q => by
  unfold fMinU at e
  split at e
  · rename_i xs
    split at e
    · rename_i z l e1
      cases e
      obtain ⟨u, rfl, o⟩ := rd1 h
      rw [intsOf_eq e1] at o
      obtain ⟨a, vs, rfl, sq, d⟩ := rdb_list o fz.s
      rw [ints_da d] at sq
      refine .inl ⟨a, z :: l, rfl, sq, Nat.succ_pos _, fun m hm hle => ?_⟩
      obtain ⟨h1, h2⟩ := minI_is l z
      rw [show m = minI z l from Int.le_antisymm (hle _ h1) (h2 m hm)]
      exact mk_sc fz.s (.int _) q
    · cases e
    · split at e
      · rename_i z l e2
        cases e
        obtain ⟨u, rfl, o⟩ := rd1 h
        rw [pairsOf_eq e2] at o
        obtain ⟨a, vs, rfl, sq, d⟩ := rdb_list o fz.s
        refine .inr ⟨a, vs, z, l, rfl, sq, da_up fz.s _ _ d, fun i v hv hm => ?_⟩
        obtain ⟨d', h1, h2⟩ := da_getV d hv
        have hm' : ((z :: l).map prI)[i]? = some (prI (minP z l)) := hm
        rw [hm'] at h1
        cases h1
        exact mk_sc fz.s h2 q
      · cases e
  · cases e
theorem k_maxU {X : Cx} (hc : X.calm = true) (e : X.K = K := by rfl) : CallR X (.builtin "max") (rMax K) := by subst e; exact cr_max hc
theorem k_minU {X : Cx} (hc : X.calm = true) (hu : X.A.units + 64 < cLine) (e : X.K = K := by rfl) : CallR X (.builtin "min") (cOr (rMin K) (rMinP K)) := by subst e; exact cr_or (cr_min hc) (cr_minP hc hu)
/-! xs.pop(i) -/
theorem seqIx_ixN {i : Int} {n k : Nat} (h : ixN n i = some k) : seqIndex? i n = some k := by
  unfold ixN at h
  split at h
  · split at h
    · cases h; exact PySem.seqIndex_of (by assumption) (by assumption)
    · cases h
  · split at h
    · cases h; exact PySem.seqIndex_neg (by omega) (by omega)
    · cases h
def ePop (i : Nat) (e : Ev) : Ev := fun ρ => match ρ[i]?, eSee e ρ with
  | some (.own _ _), some (.int j, ρ1) => match ρ1[i]? with
    | some (.own b xs) => match ixN xs.length j with
      | some k => if rngOk j then (xs[k]?).map fun x => (.d x, ρ1.set i (.own b (xs.eraseIdx k))) else none
      | none => none
    | _ => none
  | _, _ => none
theorem Sg.ch {F0 H0 F H : Hp} {m : Addr → Prop} {σ : L2.St} {ρ : Sts} {i : Nat} {b : Bool} {xs ys : List PD} {p : Addr} {vs us : List V} (S : Sg K w F0 H0 m F H σ ρ) (hi : ρ[i]? = some (.own b xs)) (hp : σ[i]? = some (some (.ref p))) (f : F p = none) (e : H p = some (.lst vs)) (d : DpAll K F us ys) :
    Go σ ρ (ρ.set i (.own b ys)) F H F (upd H p (.lst us)) ∧ Sg K w F0 H0 m F (upd H p (.lst us)) σ (ρ.set i (.own b ys)) := by
  have ow : Ow σ ρ p := ⟨i, _, hi, rfl, hp⟩
  refine ⟨⟨Same.refl F, fun a o ea => by rw [upd_ne (ne_of_none ea f)]; exact S.fh a o ea, fun a o no ea => by rw [upd_ne (fun z => no (by rw [z]; exact ow))]; exact ea, fun a _ ea _ => ea, fun a n => up_some n, fun n => n.put ok_lst, fun j s ej ms => ?_⟩, S.chgO hi hp f e d⟩
  by_cases z : i = j
  · subst z
    rw [List.getElem?_set_self (List.getElem?_eq_some_iff.mp hi).1] at ej
    cases ej
    refine ⟨_, hi, rfl, fun z => ?_⟩
    cases b with
    | true => cases z
    | false => rfl
  · rw [List.getElem?_set_ne z] at ej
    exact ⟨s, ej, ms, id⟩
theorem se_pop {i : Nat} (h : SE K w te e) : SE K w (tBM K "list" rPopAt (tVar i) (tCons te tNil)) (ePop i e) := fun ρ v ρ' he F0 H0 m F H σ S Q q => by
  unfold ePop at he
  split at he
  · rename_i b0 xs0 j ρ1 hi0 e1
    split at he
    · rename_i b xs hi
      split at he
      · rename_i k hk
        split at he
        · rename_i l
          cases e2 : xs[k]? with
          | none => rw [e2] at he; cases he
          | some x =>
            rw [e2] at he
            cases he
            obtain ⟨l1, l2⟩ := rngOk_of l
            obtain ⟨p, vs0, e3, _, h3, _⟩ := S.own (sts_at (w := w) hi0)
            refine ⟨_, e3, .inl ⟨rfl, vs0, .inl (.inl h3)⟩, se_see h e1 S fun u F2 H2 g2 S2 o => ?_⟩
            obtain ⟨p', vs, e4, f, hp, dd⟩ := S2.own (sts_at (w := w) hi)
            rw [e3] at e4
            cases e4
            obtain ⟨y, hy, dy⟩ := da_get dd e2
            obtain ⟨g3, S3⟩ := S2.ch hi e3 f hp (da_erase k dd)
            exact ⟨p, vs, j, k, y, rfl, by rw [rdb_int o], hp, by omega, by omega, by rw [da_len dd]; exact seqIx_ixN hk, hy, q y F2 _ (g2.trans g3) S3 dy⟩
        · cases he
      · cases he
    · cases he
  · cases he
theorem k_bmp {X : Cx} {o e : Expr} {T : String} {name : Str} {r : V → List V → Hp → VK → Prop} {to : TE} {t : TA} {apos pos : Pos} (h : PE X (.Call (.Attribute o name apos) [e] [] pos) (tBM X.K T r to t)) (eK : X.K = K := by rfl) : PE X (.Call (.Attribute o name apos) [e] [] pos) (tBM K T r to t) := by subst eK; exact h
end
end MU

namespace MU
open PySem PySem.Spec PyProof.Rows L2
section
variable {K : PySem.W.Frag} {w : World}
theorem ow_set {σ : L2.St} {ρ : Sts} {i : Nat} {v : V} {s : Sl} {q : Addr} (h : Ow (σ.set i (some v)) (ρ.set i s) q) : Ow σ ρ q ∨ (s.mt = true ∧ v = .ref q) := by
  obtain ⟨j, s1, e, m, r⟩ := h
  by_cases z : i = j
  · subst z
    by_cases l : i < ρ.length
    · rw [List.getElem?_set_self l] at e
      cases e
      by_cases l2 : i < σ.length
      · rw [List.getElem?_set_self l2] at r
        cases r
        exact .inr ⟨m, rfl⟩
      · rw [List.getElem?_eq_none (by rw [List.length_set]; omega)] at r
        cases r
    · rw [List.getElem?_eq_none (by rw [List.length_set]; omega)] at e
      cases e
  · rw [List.getElem?_set_ne z] at e r
    exact .inl ⟨j, s1, e, m, r⟩
/-- a, b = e1, e2; what is new may change later -/
def sPar2 (i j : Nat) (a b : Ev) : Sv := fun ρ => match a ρ with
  | some (.d x, ρ1) => (match b ρ1 with
    | some (.d y, ρ2) => some (.next, (ρ2.set i (.d x)).set j (.d y))
    | some (.new ys, ρ2) => some (.next, (ρ2.set i (.d x)).set j (.own true ys))
    | _ => none)
  | some (.new xs, ρ1) => (match b ρ1 with
    | some (.d y, ρ2) => some (.next, (ρ2.set i (.own true xs)).set j (.d y))
    | some (.new ys, ρ2) => some (.next, (ρ2.set i (.own true xs)).set j (.own true ys))
    | _ => none)
  | _ => none
theorem ss_par2 {i j : Nat} {ta tb : TE} {a b : Ev} (h1 : SE K w ta a) (h2 : SE K w tb b) : SS K w (tPar i j (tCons ta (tCons tb tNil))) (sPar2 i j a b) := fun ρ fl ρ' he F0 H0 m F H σ S D q => by
  unfold sPar2 at he
  split at he
  · rename_i x ρ1 e1
    refine h1 ρ _ ρ1 e1 _ _ _ _ _ _ S _ fun u F2 H2 g S2 o => ?_
    split at he
    · rename_i y ρ2 e2
      cases he
      exact h2 ρ1 _ ρ2 e2 _ _ _ _ _ _ S2 _ fun u2 F3 H3 g2 S3 o2 => ⟨u, u2, rfl, q F3 H3 _ (g.ff.trans g2.ff) ((S3.setD2 i (dp_up g2.ff _ _ o)).setD2 j o2) (((g.trans g2).kf.trans (.put rfl)).trans (.put rfl))⟩
    · rename_i ys ρ2 e2
      cases he
      refine h2 ρ1 _ ρ2 e2 _ _ _ _ _ _ S2 _ fun u2 F3 H3 g2 S3 o2 => ?_
      obtain ⟨p, vs, rfl, f, n, e, d⟩ := o2
      refine ⟨u, _, rfl, q F3 H3 _ (g.ff.trans g2.ff) ((S3.setD2 i (dp_up g2.ff _ _ o)).setN2 j f e d (S2.old n) fun z => ?_) (((g.trans g2).kf.trans (.put rfl)).trans (.put rfl))⟩
      rcases ow_set z with z | ⟨z, _⟩
      · exact (S2.live (g2.sub.ow z)).2 n
      · cases z
    · cases he
  · rename_i xs ρ1 e1
    refine h1 ρ _ ρ1 e1 _ _ _ _ _ _ S _ fun u F2 H2 g S2 o => ?_
    split at he
    · rename_i y ρ2 e2
      cases he
      refine h2 ρ1 _ ρ2 e2 _ _ _ _ _ _ S2 _ fun u2 F3 H3 g2 S3 o2 => ?_
      obtain ⟨p, vs, rfl, f, n, e, d⟩ := o.up S g g2
      exact ⟨_, u2, rfl, q F3 H3 _ (g.ff.trans g2.ff) ((S3.setN2 i f e d (S.old n) fun z => (S.live ((g.trans g2).sub.ow z)).2 n).setD2 j o2) (((g.trans g2).kf.trans (.put rfl)).trans (.put rfl))⟩
    · rename_i ys ρ2 e2
      cases he
      refine h2 ρ1 _ ρ2 e2 _ _ _ _ _ _ S2 _ fun u2 F3 H3 g2 S3 o2 => ?_
      obtain ⟨p2, vs2, rfl, f2, n2, e2, d2⟩ := o2
      have o' := o.up S g g2
      obtain ⟨p, vs, rfl, f, n, e, d⟩ := o
      obtain ⟨p', vs', z, f', n', e', d'⟩ := o'
      cases z
      refine ⟨_, _, rfl, q F3 H3 _ (g.ff.trans g2.ff) ((S3.setN2 i f' e' d' (S.old n) fun z => (S.live ((g.trans g2).sub.ow z)).2 n).setN2 j f2 e2 d2 (S2.old n2) fun z => ?_) (((g.trans g2).kf.trans (.put rfl)).trans (.put rfl))⟩
      rcases ow_set z with z | ⟨_, z⟩
      · exact (S2.live (g2.sub.ow z)).2 n2
      · cases z
        rw [e] at n2
        cases n2
    · cases he
  · cases he
end
theorem under_len : ∀ (ars : List Ar) (r : Vl × List (List PD)), f_posts_under ars = some r → ars.length = 1 := fun ars r h => by
  unfold f_posts_under at h
  split at h
  · rfl
  · cases h
end MU

namespace MU
open PySem PySem.Spec L2
/-! # how a def's function is computed: equations for simp -/
theorem nrfl {α : Sort u} {a : α} : a = a := rfl
section
variable {a b c e : Ev} {t t2 : Tv} {as : Av} {xs : Xv} {s s2 : Sv} {it : Iv} {gv : Gv} {gvs : Gvs} {ρ : Sts}
@[simp] theorem fnOf_eq {n np : Nat} {ars : List Ar} : fnOf n np s ars = if ars.length = np then (match s (startS n ars) with
  | some (.ret v, ρ) => (mutS ars ρ).map (v, ·)
  | some (.next, ρ) => (mutS ars ρ).map (.d .none, ·)
  | _ => none) else none := nrfl
@[simp] theorem startS_eq {n : Nat} {ars : List Ar} : startS n ars = ars.map slOf ++ List.replicate (n - ars.length) .emp := nrfl
@[simp] theorem slOf_d {x : PD} : slOf (.d x) = .d x := nrfl
@[simp] theorem slOf_m {x : List PD} : slOf (.m x) = .own false x := nrfl
@[simp] theorem mutS_nil : mutS [] ρ = some [] := nrfl
@[simp] theorem mutS_d {x : PD} {l : Sl} {ars : List Ar} : mutS (.d x :: ars) (l :: ρ) = mutS ars ρ := nrfl
@[simp] theorem mutS_m {x ys : List PD} {ars : List Ar} : mutS (.m x :: ars) (.own false ys :: ρ) = (mutS ars ρ).map (ys :: ·) := nrfl
@[simp] theorem eVar_eq {i : Nat} : eVar i ρ = match ρ[i]? with
  | some (.d x) => some (.d x, ρ)
  | some (.own _ _) => some (.al i, ρ)
  | _ => none := nrfl
@[simp] theorem eC_eq {x : PD} : eC x ρ = some (.d x, ρ) := nrfl
@[simp] theorem stl_d {x : PD} : stl (.d x) = .d x := nrfl
@[simp] theorem stl_al {x : Nat} : stl (.al x) = .al x := nrfl
@[simp] theorem stl_new {x : List PD} : stl (.new x) = .d (.list x) := nrfl
@[simp] theorem eRd_eq : eRd e ρ = match e ρ with
  | some (v, ρ') => some (stl v, ρ')
  | none => none := nrfl
@[simp] theorem look_d {x : PD} : look ρ (.d x) = some x := nrfl
@[simp] theorem look_al {i : Nat} : look ρ (.al i) = match ρ[i]? with
    | some (.d x) => some x
    | some (.own _ xs) => some (.list xs)
    | _ => none := nrfl
@[simp] theorem eSee_eq : eSee e ρ = match eRd e ρ with
  | none => none
  | some (x, ρ1) => (look ρ1 x).map (·, ρ1) := nrfl
@[simp] theorem eOp_eq {f : PD → PD → Option Vl} : eOp f a b ρ = match eRd a ρ with
  | none => none
  | some (x, ρ1) => match eRd b ρ1 with
    | none => none
    | some (y, ρ2) => match look ρ2 x, look ρ2 y with
      | some x, some y => (f x y).map (·, ρ2)
      | _, _ => none := nrfl
@[simp] theorem eUn_eq {f : PD → Option Vl} : eUn f a ρ = match eSee a ρ with
  | none => none
  | some (x, ρ1) => (f x).map (·, ρ1) := nrfl
@[simp] theorem eMul_eq : eMul a b ρ = match a ρ with
  | none => none
  | some (x, ρ1) => match eRd b ρ1 with
    | none => none
    | some (y, ρ2) => match x, look ρ2 y with
      | .new xs, some (.int k) => if 0 ≤ k ∧ k ≤ 100000 ∧ xs.length * k.toNat ≤ 100000 then some (.new (List.replicate k.toNat xs).flatten, ρ2) else none
      | .d x, some y => (fMul x y).map (·, ρ2)
      | _, _ => none := nrfl
@[simp] theorem tvB_eq : tvB e ρ = match eSee e ρ with
  | some (.bool b, ρ1) => some (b, ρ1)
  | _ => none := nrfl
@[simp] theorem tvNot_eq : tvNot t ρ = (t ρ).map fun r => (!r.1, r.2) := nrfl
@[simp] theorem tvAnd_eq : tvAnd t t2 ρ = match t ρ with
  | none => none
  | some (true, ρ1) => t2 ρ1
  | some (false, ρ1) => some (false, ρ1) := nrfl
@[simp] theorem tvOr_eq : tvOr t t2 ρ = match t ρ with
  | none => none
  | some (false, ρ1) => t2 ρ1
  | some (true, ρ1) => some (true, ρ1) := nrfl
@[simp] theorem tvYes_eq : tvYes ρ = some (true, ρ) := nrfl
@[simp] theorem eAnd_eq : eAnd a b ρ = match eSee a ρ with
  | some (.bool true, ρ1) => eRd b ρ1
  | some (.bool false, ρ1) => some (.d (.bool false), ρ1)
  | _ => none := nrfl
@[simp] theorem eOr_eq : eOr a b ρ = match eSee a ρ with
  | some (.bool false, ρ1) => eRd b ρ1
  | some (.bool true, ρ1) => some (.d (.bool true), ρ1)
  | _ => none := nrfl
@[simp] theorem eNot_eq : eNot a ρ = match eSee a ρ with
  | some (.bool b, ρ1) => some (.d (.bool (!b)), ρ1)
  | _ => none := nrfl
@[simp] theorem eIf_eq : eIf t a b ρ = match t ρ with
  | none => none
  | some (true, ρ1) => a ρ1
  | some (false, ρ1) => b ρ1 := nrfl
@[simp] theorem eDat_eq : eDat e ρ = match eRd e ρ with
  | some (.d x, ρ1) => some (.d x, ρ1)
  | some (.al i, ρ1) => match ρ1[i]? with
    | some (.d x) => some (.d x, ρ1)
    | some (.own true xs) => some (.d (.list xs), ρ1.set i (.d (.list xs)))
    | _ => none
  | _ => none := nrfl
@[simp] theorem aNil_eq : aNil ρ = some ([], ρ) := nrfl
@[simp] theorem aCons_eq : aCons e as ρ = match e ρ with
  | none => none
  | some (v, ρ1) => (as ρ1).map fun r => (v :: r.1, r.2) := nrfl
@[simp] theorem allD_nil : allD [] = some [] := nrfl
@[simp] theorem allD_d {x : PD} {vs : List Vl} : allD (.d x :: vs) = (allD vs).map (x :: ·) := nrfl
@[simp] theorem aDs_eq : aDs as ρ = match as ρ with
  | none => none
  | some (vs, ρ1) => (allD vs).map (·, ρ1) := nrfl
@[simp] theorem eTup_eq : eTup as ρ = match aDs as ρ with
  | some (ds, ρ1) => if ds.length ≤ 100000 then some (.d (.tuple ds), ρ1) else none
  | none => none := nrfl
@[simp] theorem eLst_eq : eLst as ρ = match aDs as ρ with
  | some (ds, ρ1) => if ds.length ≤ 100000 then some (.new ds, ρ1) else none
  | none => none := nrfl
@[simp] theorem lookAll_nil : lookAll ρ [] = some [] := nrfl
@[simp] theorem lookAll_cons {v : Vl} {vs : List Vl} : lookAll ρ (v :: vs) = match look ρ v, lookAll ρ vs with
    | some x, some xs => some (x :: xs)
    | _, _ => none := nrfl
@[simp] theorem eCb_eq {f : List PD → Option Vl} : eCb f as ρ = match as ρ with
  | none => none
  | some (vs, ρ1) => match lookAll ρ1 vs with
    | none => none
    | some ds => (f ds).map (·, ρ1) := nrfl
@[simp] theorem eIsi_eq {T : String} : eIsi T a ρ = match eSee a ρ with
  | none => none
  | some (x, ρ1) => (fIsi T x).map fun b => (.d (.bool b), ρ1) := nrfl
@[simp] theorem isi_int {x : PD} : fIsi "int" x = some (isIntD x) := nrfl
@[simp] theorem isi_bool {x : PD} : fIsi "bool" x = some (isBoolD x) := nrfl
@[simp] theorem isi_tuple {x : PD} : fIsi "tuple" x = some (isTupD x) := nrfl
@[simp] theorem isi_list {x : PD} : fIsi "list" x = some (isLstD x) := nrfl
@[simp] theorem eBits_eq : eBits a ρ = match eSee a ρ with
  | some (.int i, ρ1) => some (.d (.int (Builtin.Int.intBits i : Nat)), ρ1)
  | _ => none := nrfl
@[simp] theorem eChain_eq {g g' : Int → Int → Bool} : eChain g g' a b c ρ = match eSee a ρ with
  | some (.int i, ρ1) => match eSee b ρ1 with
    | some (.int j, ρ2) => if g i j then (match eSee c ρ2 with
        | some (.int k, ρ3) => some (.d (.bool (g' j k)), ρ3)
        | _ => none) else some (.d (.bool false), ρ2)
    | _ => none
  | _ => none := nrfl
@[simp] theorem oNo_eq : oNo ρ = some (none, ρ) := nrfl
@[simp] theorem oSome_eq : oSome a ρ = match eSee a ρ with
  | some (.int i, ρ1) => some (some i, ρ1)
  | _ => none := nrfl
@[simp] theorem eSl_eq {lo hi : Ov} : eSl a lo hi ρ = match eRd a ρ with
  | none => none
  | some (x, ρ1) => match lo ρ1 with
    | none => none
    | some (l, ρ2) => match hi ρ2 with
      | none => none
      | some (h, ρ3) => match look ρ3 x with
        | some (.list ds) => some (.new (cutD ds l h), ρ3)
        | some (.tuple ds) => some (.d (.tuple (cutD ds l h)), ρ3)
        | _ => none := nrfl
@[simp] theorem eSeq_eq : eSeq e ρ = match eDat e ρ with
  | some (.d (.list ds), ρ1) => some ((false, ds), ρ1)
  | some (.d (.tuple ds), ρ1) => some ((true, ds), ρ1)
  | _ => none := nrfl
@[simp] theorem itSeq_eq : itSeq e ρ = (eSeq e ρ).map fun r => (r.1.2, r.2) := nrfl
@[simp] theorem itEnum_eq : itEnum e ρ = (eSeq e ρ).map fun r => (enumD r.1.2, r.2) := nrfl
@[simp] theorem itRng1_eq : itRng1 a ρ = match eSee a ρ with
  | some (.int n, ρ1) => if rngOk n then some (rngD 0 n.toNat, ρ1) else none
  | _ => none := nrfl
@[simp] theorem itRng2_eq : itRng2 a b ρ = match eSee a ρ with
  | some (.int i, ρ1) => match eSee b ρ1 with
    | some (.int j, ρ2) => if rngOk i && rngOk j then some (rngD i (j - i).toNat, ρ2) else none
    | _ => none
  | _ => none := nrfl
@[simp] theorem gvName_eq {i : Nat} {x : PD} : gvName i x ρ = some (ρ.set i (.d x)) := nrfl
@[simp] theorem gvsNil_eq : gvsNil [] ρ = some ρ := nrfl
@[simp] theorem gvsCons_eq {x : PD} {l : List PD} : gvsCons gv gvs (x :: l) ρ = match gv x ρ with
    | none => none
    | some ρ1 => gvs l ρ1 := nrfl
@[simp] theorem gvTup_eq {n : Nat} {l : List PD} : gvTup n gvs (.tuple l) ρ = if l.length = n then gvs l ρ else none := nrfl
@[simp] theorem gvSub_eq {i : Nat} {k : Ev} {x : PD} : gvSub i k x ρ = match ρ[i]?, eSee k ρ with
  | some (.own _ _), some (.int j, ρ1) => match ρ1[i]? with
    | some (.own b xs) => (ixN xs.length j).map fun n => ρ1.set i (.own b (xs.set n x))
    | _ => none
  | _, _ => none := nrfl
@[simp] theorem sNext_eq : sNext ρ = some (.next, ρ) := nrfl
@[simp] theorem sBrk_eq : sBrk ρ = some (.brk, ρ) := nrfl
@[simp] theorem sCont_eq : sCont ρ = some (.cont, ρ) := nrfl
theorem sSeq_eq : sSeq s s2 ρ = match s ρ with
  | some (.next, ρ1) => s2 ρ1
  | r => r := nrfl
@[simp] theorem sSet_eq {i : Nat} : sSet i e ρ = match e ρ with
  | some (.d x, ρ1) => some (.next, ρ1.set i (.d x))
  | some (.new xs, ρ1) => some (.next, ρ1.set i (.own true xs))
  | some (.al j, ρ1) => match ρ1[j]? with
    | some (.d x) => some (.next, ρ1.set i (.d x))
    | some (.own true xs) => some (.next, (ρ1.set j (.d (.list xs))).set i (.d (.list xs)))
    | _ => none
  | none => none := nrfl
@[simp] theorem sExpr_eq : sExpr e ρ = (e ρ).map fun r => (.next, r.2) := nrfl
@[simp] theorem sRet_eq : sRet e ρ = match e ρ with
  | some (.d x, ρ1) => some (.ret (.d x), ρ1)
  | some (.new xs, ρ1) => some (.ret (.new xs), ρ1)
  | some (.al j, ρ1) => match ρ1[j]? with
    | some (.d x) => some (.ret (.d x), ρ1)
    | some (.own true xs) => some (.ret (.new xs), ρ1)
    | _ => none
  | none => none := nrfl
@[simp] theorem sRetN_eq : sRetN ρ = some (.ret (.d .none), ρ) := nrfl
@[simp] theorem sIf_eq : sIf t s s2 ρ = match t ρ with
  | none => none
  | some (true, ρ1) => s ρ1
  | some (false, ρ1) => s2 ρ1 := nrfl
@[simp] theorem sAsg_eq : sAsg gv e ρ = match eDat e ρ with
  | some (.d x, ρ1) => (gv x ρ1).map fun r => (.next, r)
  | _ => none := nrfl
@[simp] theorem sPar_eq {i j : Nat} : sPar i j as ρ = match aDs as ρ with
  | some ([x, y], ρ1) => some (.next, (ρ1.set i (.d x)).set j (.d y))
  | _ => none := nrfl
@[simp] theorem sPar2_eq {i j : Nat} : sPar2 i j a b ρ = match a ρ with
  | some (.d x, ρ1) => (match b ρ1 with
    | some (.d y, ρ2) => some (.next, (ρ2.set i (.d x)).set j (.d y))
    | some (.new ys, ρ2) => some (.next, (ρ2.set i (.d x)).set j (.own true ys))
    | _ => none)
  | some (.new xs, ρ1) => (match b ρ1 with
    | some (.d y, ρ2) => some (.next, (ρ2.set i (.own true xs)).set j (.d y))
    | some (.new ys, ρ2) => some (.next, (ρ2.set i (.own true xs)).set j (.own true ys))
    | _ => none)
  | _ => none := nrfl
@[simp] theorem sAugI_eq {i : Nat} {f : Int → Int → Int} : sAugI i f e ρ = match ρ[i]?, eSee e ρ with
  | some (.d (.int x)), some (.int y, ρ1) => some (.next, ρ1.set i (.d (.int (f x y))))
  | _, _ => none := nrfl
@[simp] theorem sAppend_eq {i : Nat} : sAppend i e ρ = match ρ[i]?, eDat e ρ with
  | some (.own _ _), some (.d x, ρ1) => match ρ1[i]? with
    | some (.own b xs) => if xs.length < 100000 then some (.next, ρ1.set i (.own b (xs ++ [x]))) else none
    | _ => none
  | _, _ => none := nrfl
@[simp] theorem sReverse_eq {i : Nat} : sReverse i ρ = match ρ[i]? with
  | some (.own b xs) => some (.next, ρ.set i (.own b xs.reverse))
  | _ => none := nrfl
theorem sFor_eq : sFor it gv s ρ = match it ρ with
  | none => none
  | some (ds, ρ1) => forL gv s ds ρ1 := nrfl
@[simp] theorem xNil_eq : xNil ρ = some ([], ρ) := nrfl
@[simp] theorem xR_eq : xR e xs ρ = match eRd e ρ with
  | none => none
  | some (v, ρ1) => (xs ρ1).map fun r => (.r v :: r.1, r.2) := nrfl
@[simp] theorem xM_eq : xM e xs ρ = match e ρ with
  | none => none
  | some (v, ρ1) => (xs ρ1).map fun r => (.m v :: r.1, r.2) := nrfl
@[simp] theorem eCall_eq {f : Fn} : eCall f xs ρ = match xs ρ with
  | none => none
  | some (vs, ρ1) => match callAt f vs ρ1 with
    | some r => some r
    | none => match frzA (dals ρ1 vs) ρ1 with
      | none => none
      | some ρ2 => callAt f vs ρ2 := nrfl
@[simp] theorem eLc_eq {vs : List Nat} : eLc vs it gv t e ρ = match it ρ with
  | none => none
  | some (ds, ρ1) => if ds.length ≤ 100000 then (match lcL vs gv t e ds (wipeS ρ1 vs) with
      | none => none
      | some (ys, ρe) => some (.new ys, backS ρ1 vs ρe)) else none := nrfl
@[simp] theorem wipeS_nil : wipeS ρ [] = ρ := nrfl
@[simp] theorem wipeS_cons {v : Nat} {vs : List Nat} : wipeS ρ (v :: vs) = (wipeS ρ vs).set v .emp := nrfl
@[simp] theorem backS_nil {ρe : Sts} : backS ρ [] ρe = ρe := nrfl
@[simp] theorem backS_cons {v : Nat} {vs : List Nat} {ρe : Sts} : backS ρ (v :: vs) ρe = (backS ρ vs ρe).set v ((ρ[v]?).getD .emp) := nrfl
@[simp] theorem sSetN_eq {i : Nat} : sSetN i ρ = some (.next, ρ.set i (.nset [])) := nrfl
@[simp] theorem sSetI_eq {i : Nat} : sSetI i ρ = some (.next, ρ.set i (.iset [])) := nrfl
@[simp] theorem sSet1_eq {i : Nat} : sSet1 i e ρ = match eSee e ρ with
  | some (.int k, ρ1) => some (.next, ρ1.set i (.iset [k]))
  | _ => none := nrfl
@[simp] theorem sAddN_eq {i : Nat} : sAddN i e ρ = match ρ[i]?, eSee e ρ with
  | some (.nset _), some (x, ρ1) => match ρ1[i]?, nkOf x with
    | some (.nset ks), some k => if ks.length < 4000 then some (.next, ρ1.set i (.nset (addN ks k))) else none
    | _, _ => none
  | _, _ => none := nrfl
@[simp] theorem sAddI_eq {i : Nat} : sAddI i e ρ = match ρ[i]?, eSee e ρ with
  | some (.iset _), some (.int k, ρ1) => match ρ1[i]? with
    | some (.iset ks) => if ks.length < 4000 then some (.next, ρ1.set i (.iset (addI ks k))) else none
    | _ => none
  | _, _ => none := nrfl
@[simp] theorem eInN_eq {i : Nat} {neg : Bool} : eInN neg e i ρ = match eSee e ρ with
  | some (x, ρ1) => match ρ1[i]?, nkOf x with
    | some (.nset ks), some k => some (.d (.bool (if neg then !(ks.any fun y => decide (y = k)) else ks.any fun y => decide (y = k))), ρ1)
    | _, _ => none
  | none => none := nrfl
@[simp] theorem eInI_eq {i : Nat} {neg : Bool} : eInI neg e i ρ = match eSee e ρ with
  | some (.int k, ρ1) => match ρ1[i]? with
    | some (.iset ks) => some (.d (.bool (if neg then !(ks.any fun y => decide (y = k)) else ks.any fun y => decide (y = k))), ρ1)
    | _ => none
  | _ => none := nrfl
@[simp] theorem eSortSet_eq {i : Nat} : eSortSet i ρ = match ρ[i]? with
  | some (.iset ks) => if ks.length < 64 ∧ ks.Nodup then some (.new ((sortI ks).map .int), ρ) else none
  | _ => none := nrfl
@[simp] theorem eIndex_eq : eIndex a b ρ = match eDat a ρ with
  | some (.d x, ρ1) => match eSee b ρ1 with
    | some (y, ρ2) => match seqOf x with
      | some ds => if flatD y && ds.all flatD then (idxD y ds 0).map fun j => (.d (.int (j : Nat)), ρ2) else none
      | none => none
    | none => none
  | _ => none := nrfl
@[simp] theorem eIndexO_eq {i : Nat} : eIndexO i b ρ = match ρ[i]?, eSee b ρ with
  | some (.own _ _), some (y, ρ1) => match ρ1[i]? with
    | some (.own _ ds) => if flatD y && ds.all flatD then (idxD y ds 0).map fun j => (.d (.int (j : Nat)), ρ1) else none
    | _ => none
  | _, _ => none := nrfl
@[simp] theorem eRev_eq : eRev a ρ = match eSee a ρ with
  | some (.list ds, ρ1) => some (.new ds.reverse, ρ1)
  | _ => none := nrfl
@[simp] theorem ePop_eq {i : Nat} : ePop i e ρ = match ρ[i]?, eSee e ρ with
  | some (.own _ _), some (.int j, ρ1) => match ρ1[i]? with
    | some (.own b xs) => match ixN xs.length j with
      | some k => if rngOk j then (xs[k]?).map fun x => (.d x, ρ1.set i (.own b (xs.eraseIdx k))) else none
      | none => none
    | _ => none
  | _, _ => none := nrfl
@[simp] theorem eStar2_eq {f : Fn} : eStar2 f as ρ = match aDs as ρ with
  | some (d1 :: d2 :: l, ρ1) => if l.length ≤ 100000 then (match f [.d d1, .d d2, .d (.tuple l)] with
      | some (v, []) => some (v, ρ1)
      | _ => none) else none
  | _ => none := nrfl
/-! operators on data -/
@[simp] theorem fAdd_ii {i j : Int} : fAdd (.int i) (.int j) = some (.d (.int (i + j))) := nrfl
@[simp] theorem fAdd_ll {x y : List PD} : fAdd (.list x) (.list y) = if x.length + y.length ≤ 100000 then some (.new (x ++ y)) else none := nrfl
@[simp] theorem fAdd_tt {x y : List PD} : fAdd (.tuple x) (.tuple y) = if x.length + y.length ≤ 100000 then some (.d (.tuple (x ++ y))) else none := nrfl
@[simp] theorem fSub_ii {i j : Int} : fSub (.int i) (.int j) = some (.d (.int (i - j))) := nrfl
@[simp] theorem fMul_ii {i j : Int} : fMul (.int i) (.int j) = if bits4 i && bits4 j then some (.d (.int (i * j))) else none := nrfl
@[simp] theorem fDiv_ii {i j : Int} : fDiv (.int i) (.int j) = if 0 < j ∧ bits4 j then some (.d (.int (i / j))) else none := nrfl
@[simp] theorem fMod_ii {i j : Int} : fMod (.int i) (.int j) = if 0 < j then some (.d (.int (i % j))) else none := nrfl
theorem fPow_ii {i j : Int} : fPow (.int i) (.int j) = if 0 ≤ j ∧ (Builtin.Int.intBits i : Int) * j ≤ 2 ^ 27 then some (.d (.int (i ^ j.toNat))) else none := nrfl
@[simp] theorem fI_ii {g : Int → Int → Bool} {i j : Int} : fI g (.int i) (.int j) = some (.d (.bool (g i j))) := nrfl
@[simp] theorem fNeg_i {i : Int} : fNeg (.int i) = some (.d (.int (-i))) := nrfl
theorem shp_i {i : Int} : SeqAt.shaped (.int i) = true := by rfl
theorem shp_b {i : Bool} : SeqAt.shaped (.bool i) = true := by rfl
theorem shp_n : SeqAt.shaped .none = true := by rfl
@[simp] theorem fEq_ii {i j : Int} : fEq (.int i) (.int j) = some (.d (.bool (decide (i = j)))) := by
  unfold fEq
  rw [if_pos ⟨shp_i, shp_i⟩]
  simp [PyData.eqv]
  rfl
@[simp] theorem fNe_ii {i j : Int} : fNe (.int i) (.int j) = some (.d (.bool (!decide (i = j)))) := by
  unfold fNe
  rw [if_pos ⟨shp_i, shp_i⟩]
  simp [PyData.eqv]
  rfl
@[simp] theorem fIsN_n {x : PD} : fIsN x .none = some (.d (.bool (isNon x))) := nrfl
@[simp] theorem fNotN_n {x : PD} : fNotN x .none = some (.d (.bool (!isNon x))) := nrfl
@[simp] theorem isNon_n : isNon .none = true := nrfl
@[simp] theorem isNon_i {i : Int} : isNon (.int i) = false := nrfl
@[simp] theorem isNon_b {i : Bool} : isNon (.bool i) = false := nrfl
@[simp] theorem isNon_l {i : List PD} : isNon (.list i) = false := nrfl
@[simp] theorem isNon_t {i : List PD} : isNon (.tuple i) = false := nrfl
@[simp] theorem isInt_i {i : Int} : isIntD (.int i) = true := nrfl
@[simp] theorem isInt_b {i : Bool} : isIntD (.bool i) = true := nrfl
@[simp] theorem isInt_n : isIntD .none = false := nrfl
@[simp] theorem isBool_i {i : Int} : isBoolD (.int i) = false := nrfl
@[simp] theorem isTup_t {i : List PD} : isTupD (.tuple i) = true := nrfl
@[simp] theorem isTup_l {i : List PD} : isTupD (.list i) = false := nrfl
@[simp] theorem isLst_l {i : List PD} : isLstD (.list i) = true := nrfl
@[simp] theorem isLst_t {i : List PD} : isLstD (.tuple i) = false := nrfl
@[simp] theorem seqOf_l {i : List PD} : seqOf (.list i) = some i := nrfl
@[simp] theorem seqOf_t {i : List PD} : seqOf (.tuple i) = some i := nrfl
@[simp] theorem fIx_l {ds : List PD} {i : Int} : fIx (.list ds) (.int i) = (atI ds i).map .d := nrfl
@[simp] theorem fIx_t {ds : List PD} {i : Int} : fIx (.tuple ds) (.int i) = (atI ds i).map .d := nrfl
@[simp] theorem fLen_l {ds : List PD} : fLen [.list ds] = some (.d (.int ds.length)) := nrfl
@[simp] theorem fLen_t {ds : List PD} : fLen [.tuple ds] = some (.d (.int ds.length)) := nrfl
@[simp] theorem fInt_i {i : Int} : fInt [.int i] = some (.d (.int i)) := nrfl
@[simp] theorem fMax2_ii {i j : Int} : fMax2 [.int i, .int j] = some (.d (.int (max i j))) := nrfl
@[simp] theorem fMin2_ii {i j : Int} : fMin2 [.int i, .int j] = some (.d (.int (min i j))) := nrfl
@[simp] theorem fList_l {ds : List PD} : fList [.list ds] = some (.new ds) := nrfl
@[simp] theorem fList_t {ds : List PD} : fList [.tuple ds] = some (.new ds) := nrfl
@[simp] theorem fTuple_l {ds : List PD} : fTuple [.list ds] = some (.d (.tuple ds)) := nrfl
@[simp] theorem fTuple_t {ds : List PD} : fTuple [.tuple ds] = some (.d (.tuple ds)) := nrfl
@[simp] theorem fSorted_l {ds : List PD} : fSorted [.list ds] = (intsOf ds).map fun ns => .new ((sortI ns).map .int) := nrfl
@[simp] theorem fSum_l {ds : List PD} : fSum [.list ds] = (intsOf ds).map fun ns => .d (.int ns.sum) := nrfl
@[simp] theorem intsOf_map' {ns : List Int} : intsOf (ns.map .int) = some ns := intsOf_map ns
theorem fIn_l {neg : Bool} {x : PD} {ds : List PD} : fIn neg x (.list ds) = if flatD x && ds.all flatD then some (.d (.bool (if neg then !ds.any fun z => PyData.eqv z x else ds.any fun z => PyData.eqv z x))) else none := nrfl
theorem fIn_t {neg : Bool} {x : PD} {ds : List PD} : fIn neg x (.tuple ds) = if flatD x && ds.all flatD then some (.d (.bool (if neg then !ds.any fun z => PyData.eqv z x else ds.any fun z => PyData.eqv z x))) else none := nrfl
@[simp] theorem flat_i {i : Int} : flatD (.int i) = true := nrfl
@[simp] theorem flat_n : flatD .none = true := nrfl
@[simp] theorem flat_b {b : Bool} : flatD (.bool b) = true := nrfl
@[simp] theorem nk_n : nkOf .none = some none := nrfl
@[simp] theorem nk_i {i : Int} : nkOf (.int i) = some (some (.inl i)) := nrfl
end
/-! calls: all the arguments are data -/
theorem callAt_1 {f : Fn} {ρ : Sts} {x : PD} {v : Vl} (h : f [.d x] = some (v, [])) : callAt f [.r (.d x)] ρ = some (v, ρ) := by
  simp [callAt, arsOf, h, mals, dals, news, mprs, putS]
theorem callAt_2 {f : Fn} {ρ : Sts} {x y : PD} {v : Vl} (h : f [.d x, .d y] = some (v, [])) : callAt f [.r (.d x), .r (.d y)] ρ = some (v, ρ) := by
  simp [callAt, arsOf, h, mals, dals, news, mprs, putS]
theorem callAt_3 {f : Fn} {ρ : Sts} {x y z : PD} {v : Vl} (h : f [.d x, .d y, .d z] = some (v, [])) : callAt f [.r (.d x), .r (.d y), .r (.d z)] ρ = some (v, ρ) := by
  simp [callAt, arsOf, h, mals, dals, news, mprs, putS]
theorem callAt_4 {f : Fn} {ρ : Sts} {x y z u : PD} {v : Vl} (h : f [.d x, .d y, .d z, .d u] = some (v, [])) : callAt f [.r (.d x), .r (.d y), .r (.d z), .r (.d u)] ρ = some (v, ρ) := by
  simp [callAt, arsOf, h, mals, dals, news, mprs, putS]
/-! loops -/
theorem for_inv {gv : Gv} {s : Sv} {ds : List PD} (I : Nat → Sts → Prop) {ρ : Sts} (h0 : I 0 ρ)
    (hs : ∀ (k : Nat) (x : PD) (ρ : Sts), ds[k]? = some x → I k ρ → ∃ ρ1 ρ2, gv x ρ = some ρ1 ∧ (s ρ1 = some (.next, ρ2) ∨ s ρ1 = some (.cont, ρ2)) ∧ I (k + 1) ρ2) : ∃ ρ', forL gv s ds ρ = some (.next, ρ') ∧ I ds.length ρ' := by
  suffices H : ∀ (n : Nat) (ρ : Sts), n ≤ ds.length → I n ρ → ∃ ρ', forL gv s (ds.drop n) ρ = some (.next, ρ') ∧ I ds.length ρ' by
    simpa using H 0 ρ (Nat.zero_le _) h0
  intro n
  induction hm : ds.length - n generalizing n with
  | zero =>
    intro ρ l i
    have e : n = ds.length := by omega
    subst e
    rw [List.drop_length]
    exact ⟨ρ, rfl, i⟩
  | succ m ih =>
    intro ρ l i
    have ln : n < ds.length := by omega
    obtain ⟨ρ1, ρ2, h1, h2, h3⟩ := hs n ds[n] ρ (List.getElem?_eq_getElem ln) i
    obtain ⟨ρ', h4, h5⟩ := ih (n + 1) (by omega) ρ2 (by omega) h3
    refine ⟨ρ', ?_, h5⟩
    rw [List.drop_eq_getElem_cons ln]
    unfold forL
    rw [h1]
    dsimp only
    rcases h2 with h2 | h2 <;> rw [h2] <;> exact h4
/-- a loop that may be left by return -/
theorem for_ret {gv : Gv} {s : Sv} {ds : List PD} (I : Nat → Sts → Prop) (R : Fl × Sts → Prop) {ρ : Sts} (h0 : I 0 ρ)
    (hs : ∀ (k : Nat) (x : PD) (ρ : Sts), ds[k]? = some x → I k ρ → ∃ ρ1, gv x ρ = some ρ1 ∧ ((∃ ρ2, (s ρ1 = some (.next, ρ2) ∨ s ρ1 = some (.cont, ρ2)) ∧ I (k + 1) ρ2) ∨ (∃ v ρ2, s ρ1 = some (.ret v, ρ2) ∧ R (.ret v, ρ2)) ∨ (∃ ρ2, s ρ1 = some (.brk, ρ2) ∧ R (.next, ρ2)))) :
    ∃ r, forL gv s ds ρ = some r ∧ ((∃ ρ', r = (.next, ρ') ∧ I ds.length ρ') ∨ R r) := by
  suffices H : ∀ (n : Nat) (ρ : Sts), n ≤ ds.length → I n ρ → ∃ r, forL gv s (ds.drop n) ρ = some r ∧ ((∃ ρ', r = (.next, ρ') ∧ I ds.length ρ') ∨ R r) by
    simpa using H 0 ρ (Nat.zero_le _) h0
  intro n
  induction hm : ds.length - n generalizing n with
  | zero =>
    intro ρ l i
    have e : n = ds.length := by omega
    subst e
    rw [List.drop_length]
    exact ⟨(.next, ρ), rfl, .inl ⟨ρ, rfl, i⟩⟩
  | succ m ih =>
    intro ρ l i
    have ln : n < ds.length := by omega
    obtain ⟨ρ1, h1, h2⟩ := hs n ds[n] ρ (List.getElem?_eq_getElem ln) i
    rw [List.drop_eq_getElem_cons ln]
    unfold forL
    rw [h1]
    dsimp only
    rcases h2 with ⟨ρ2, h2, h3⟩ | ⟨v, ρ2, h2, h3⟩ | ⟨ρ2, h2, h3⟩
    · obtain ⟨r, h4, h5⟩ := ih (n + 1) (by omega) ρ2 (by omega) h3
      refine ⟨r, ?_, h5⟩
      rcases h2 with h2 | h2 <;> rw [h2] <;> exact h4
    · rw [h2]; exact ⟨_, rfl, .inr h3⟩
    · rw [h2]; exact ⟨_, rfl, .inr h3⟩
theorem while_inv {t : Tv} {s : Sv} (I : Nat → Sts → Prop) (J : Sts → Prop) (hs : ∀ (m : Nat) (ρ : Sts), I m ρ → ∃ b ρ1, t ρ = some (b, ρ1) ∧ (b = false → J ρ1) ∧ (b = true → ∃ ρ2 m', (s ρ1 = some (.next, ρ2) ∨ s ρ1 = some (.cont, ρ2)) ∧ m' < m ∧ I m' ρ2)) :
    ∀ (n m : Nat) (ρ : Sts), m < n → I m ρ → ∃ ρ', whileL t s n ρ = some (.next, ρ') ∧ J ρ' := by
  intro n
  induction n with
  | zero => intro m ρ l; omega
  | succ n ih =>
    intro m ρ l i
    obtain ⟨b, ρ1, h1, h2, h3⟩ := hs m ρ i
    unfold whileL
    rw [h1]
    cases b with
    | false => exact ⟨ρ1, rfl, h2 rfl⟩
    | true =>
      obtain ⟨ρ2, m', h4, h5, h6⟩ := h3 rfl
      dsimp only
      rcases h4 with h4 | h4 <;> rw [h4] <;> exact ih m' ρ2 (by omega) h6
/-- a comprehension whose turns leave the slots as they are -/
theorem lc_inv {vs : List Nat} {gv : Gv} {t : Tv} {e : Ev} {ds : List PD} {ρ : Sts} (f : PD → Option PD) (h : ∀ (k : Nat) (x : PD), ds[k]? = some x → ∃ ρ1 b ρ2, gv x ρ = some ρ1 ∧ t ρ1 = some (b, ρ2) ∧ (b = true → ∃ y ρ3, eDat e ρ2 = some (.d y, ρ3) ∧ f x = some y ∧ wipeS ρ3 vs = ρ) ∧ (b = false → f x = none ∧ wipeS ρ2 vs = ρ)) :
    lcL vs gv t e ds ρ = some (ds.filterMap f, ρ) := by
  induction ds with
  | nil => rfl
  | cons d ds ih =>
    have ih' := ih fun k x e => h (k + 1) x (by simpa using e)
    obtain ⟨ρ1, b, ρ2, h1, h2, h3, h4⟩ := h 0 d rfl
    unfold lcL
    rw [h1]
    dsimp only
    rw [h2]
    cases b with
    | false =>
      obtain ⟨h5, h6⟩ := h4 rfl
      dsimp only
      rw [h6, ih', List.filterMap_cons, h5]
    | true =>
      obtain ⟨y, ρ3, h5, h6, h7⟩ := h3 rfl
      dsimp only
      rw [h5]
      dsimp only
      rw [h7, ih', List.filterMap_cons, h6]
      rfl
/-! ## what is reached -/
def Ok (r : Option (Fl × Sts)) (P : Fl → Sts → Prop) : Prop := ∃ fl ρ', r = some (fl, ρ') ∧ P fl ρ'
@[simp] theorem ok_some {fl : Fl} {ρ : Sts} {P : Fl → Sts → Prop} : Ok (some (fl, ρ)) P ↔ P fl ρ := ⟨fun ⟨a, b, e, h⟩ => by cases e; exact h, fun h => ⟨fl, ρ, rfl, h⟩⟩
@[simp] theorem ok_none {P : Fl → Sts → Prop} : Ok none P ↔ False := ⟨fun ⟨a, b, e, h⟩ => (by cases e), fun h => h.elim⟩
theorem ok_run {s : Sv} {ρ ρ' : Sts} {fl : Fl} {P : Fl → Sts → Prop} (h : s ρ = some (fl, ρ')) (p : P fl ρ') : Ok (s ρ) P := ⟨fl, ρ', h, p⟩
theorem Ok.imp {r : Option (Fl × Sts)} {P P' : Fl → Sts → Prop} (h : Ok r P) (f : ∀ fl ρ, P fl ρ → P' fl ρ) : Ok r P' := by
  obtain ⟨a, b, e, p⟩ := h
  exact ⟨a, b, e, f _ _ p⟩
/-- behind a statement: go on, or leave -/
def thenP (s : Sv) (P : Fl → Sts → Prop) : Fl → Sts → Prop := fun fl ρ => match fl with
  | .next => Ok (s ρ) P
  | _ => P fl ρ
@[simp] theorem thenP_next {s : Sv} {P : Fl → Sts → Prop} {ρ : Sts} : thenP s P .next ρ = Ok (s ρ) P := nrfl
@[simp] theorem thenP_ret {s : Sv} {P : Fl → Sts → Prop} {ρ : Sts} {v : Vl} : thenP s P (.ret v) ρ = P (.ret v) ρ := nrfl
@[simp] theorem thenP_brk {s : Sv} {P : Fl → Sts → Prop} {ρ : Sts} : thenP s P .brk ρ = P .brk ρ := nrfl
@[simp] theorem thenP_cont {s : Sv} {P : Fl → Sts → Prop} {ρ : Sts} : thenP s P .cont ρ = P .cont ρ := nrfl
section
variable {s s2 : Sv} {t : Tv} {it : Iv} {gv : Gv} {ρ ρ1 : Sts} {P : Fl → Sts → Prop} {ds : List PD}
theorem ok_seq (h : Ok (s ρ) (thenP s2 P)) : Ok (sSeq s s2 ρ) P := by
  obtain ⟨fl, ρ1, e, p⟩ := h
  rw [sSeq_eq, e]
  cases fl with
  | next => exact p
  | ret v => exact ok_some.mpr p
  | brk => exact ok_some.mpr p
  | cont => exact ok_some.mpr p
theorem ok_seqI (M : Sts → Prop) (h : Ok (s ρ) fun fl ρ1 => fl = .next ∧ M ρ1) (h2 : ∀ ρ1, M ρ1 → Ok (s2 ρ1) P) : Ok (sSeq s s2 ρ) P :=
  ok_seq (h.imp fun fl ρ1 ⟨e, m⟩ => by subst e; exact h2 ρ1 m)
/-- a loop's turn -/
def turnP (I : Sts → Prop) (P : Fl → Sts → Prop) : Fl → Sts → Prop := fun fl ρ => match fl with
  | .next => I ρ
  | .cont => I ρ
  | .brk => P .next ρ
  | .ret v => P (.ret v) ρ
@[simp] theorem turnP_next {I : Sts → Prop} : turnP I P .next ρ = I ρ := nrfl
@[simp] theorem turnP_cont {I : Sts → Prop} : turnP I P .cont ρ = I ρ := nrfl
@[simp] theorem turnP_brk {I : Sts → Prop} : turnP I P .brk ρ = P .next ρ := nrfl
@[simp] theorem turnP_ret {I : Sts → Prop} {v : Vl} : turnP I P (.ret v) ρ = P (.ret v) ρ := nrfl
theorem ok_forL (I : Nat → Sts → Prop) (h0 : I 0 ρ) (hs : ∀ (k : Nat) (x : PD) (ρ : Sts), ds[k]? = some x → I k ρ → ∃ ρ1, gv x ρ = some ρ1 ∧ Ok (s ρ1) (turnP (I (k + 1)) P)) (he : ∀ ρ', I ds.length ρ' → P .next ρ') : Ok (forL gv s ds ρ) P := by
  obtain ⟨⟨fl, ρ'⟩, h1, h2⟩ := for_ret (gv := gv) (s := s) (ds := ds) I (fun r => P r.1 r.2) h0 fun k x ρ e i => by
    obtain ⟨ρ1, h1, fl, ρ2, h2, h3⟩ := hs k x ρ e i
    refine ⟨ρ1, h1, ?_⟩
    cases fl with
    | next => exact .inl ⟨ρ2, .inl h2, h3⟩
    | cont => exact .inl ⟨ρ2, .inr h2, h3⟩
    | brk => exact .inr (.inr ⟨ρ2, h2, h3⟩)
    | ret v => exact .inr (.inl ⟨v, ρ2, h2, h3⟩)
  refine ⟨fl, ρ', h1, ?_⟩
  rcases h2 with ⟨ρ2, e, i⟩ | h2
  · cases e
    exact he _ i
  · exact h2
theorem ok_for (hi : it ρ = some (ds, ρ1)) (I : Nat → Sts → Prop) (h0 : I 0 ρ1) (hs : ∀ (k : Nat) (x : PD) (ρ : Sts), ds[k]? = some x → I k ρ → ∃ ρ1, gv x ρ = some ρ1 ∧ Ok (s ρ1) (turnP (I (k + 1)) P)) (he : ∀ ρ', I ds.length ρ' → P .next ρ') : Ok (sFor it gv s ρ) P := by
  rw [sFor_eq, hi]
  exact ok_forL I h0 hs he
theorem ok_while {n m : Nat} (I : Nat → Sts → Prop) (h0 : I m ρ) (lt : m < n) (hs : ∀ (m : Nat) (ρ : Sts), I m ρ → ∃ b ρ1, t ρ = some (b, ρ1) ∧ (b = false → P .next ρ1) ∧ (b = true → Ok (s ρ1) (turnP (fun ρ2 => ∃ m', m' < m ∧ I m' ρ2) P))) : Ok (whileL t s n ρ) P := by
  induction n generalizing m ρ with
  | zero => omega
  | succ n ih =>
    obtain ⟨b, ρ1, h1, h2, h3⟩ := hs m ρ h0
    unfold whileL
    rw [h1]
    cases b with
    | false => exact ok_some.mpr (h2 rfl)
    | true =>
      obtain ⟨fl, ρ2, h4, h5⟩ := h3 rfl
      dsimp only
      rw [h4]
      cases fl with
      | next => obtain ⟨m', l, i⟩ := h5; exact ih i (by omega)
      | cont => obtain ⟨m', l, i⟩ := h5; exact ih i (by omega)
      | brk => exact ok_some.mpr h5
      | ret v => exact ok_some.mpr h5
theorem ok_if {b : Bool} (ht : t ρ = some (b, ρ1)) (h1 : b = true → Ok (s ρ1) P) (h2 : b = false → Ok (s2 ρ1) P) : Ok (sIf t s s2 ρ) P := by
  rw [sIf_eq, ht]
  cases b with
  | true => exact h1 rfl
  | false => exact h2 rfl
theorem ok_yes (ht : t ρ = some (true, ρ1)) (h1 : Ok (s ρ1) P) : Ok (sIf t s s2 ρ) P := ok_if ht (fun _ => h1) fun z => by cases z
theorem ok_no (ht : t ρ = some (false, ρ1)) (h1 : Ok (s2 ρ1) P) : Ok (sIf t s s2 ρ) P := ok_if ht (fun z => by cases z) fun _ => h1
/-- a def's end -/
def endP (ars : List Ar) (Post : Vl → List (List PD) → Prop) : Fl → Sts → Prop := fun fl ρ => match fl with
  | .ret v => ∃ ms, mutS ars ρ = some ms ∧ Post v ms
  | .next => ∃ ms, mutS ars ρ = some ms ∧ Post (.d .none) ms
  | _ => False
@[simp] theorem endP_ret {ars : List Ar} {Post : Vl → List (List PD) → Prop} {v : Vl} : endP ars Post (.ret v) ρ = ∃ ms, mutS ars ρ = some ms ∧ Post v ms := nrfl
@[simp] theorem endP_next {ars : List Ar} {Post : Vl → List (List PD) → Prop} : endP ars Post .next ρ = ∃ ms, mutS ars ρ = some ms ∧ Post (.d .none) ms := nrfl
theorem ok_def {n np : Nat} {ars : List Ar} {Post : Vl → List (List PD) → Prop} (l : ars.length = np) (h : Ok (s (startS n ars)) (endP ars Post)) : ∃ v ms, fnOf n np s ars = some (v, ms) ∧ Post v ms := by
  obtain ⟨fl, ρ', e, p⟩ := h
  rw [fnOf_eq, if_pos l, e]
  cases fl with
  | ret v => obtain ⟨ms, h1, h2⟩ := p; exact ⟨v, ms, by dsimp only; rw [h1]; rfl, h2⟩
  | next => obtain ⟨ms, h1, h2⟩ := p; exact ⟨_, ms, by dsimp only; rw [h1]; rfl, h2⟩
  | brk => exact p.elim
  | cont => exact p.elim
theorem ok_fn {n np : Nat} {ars : List Ar} {v : Vl} {ms : List (List PD)} (l : ars.length = np) (h : Ok (s (startS n ars)) (endP ars fun v' ms' => v' = v ∧ ms' = ms)) : fnOf n np s ars = some (v, ms) := by
  obtain ⟨v', ms', e, rfl, rfl⟩ := ok_def l h
  exact e
end
end MU

namespace MU
open PySem PySem.Spec L2
def b_is_whole : Sv :=
  (sRet (eAnd (eIsi "int" (eVar 0)) (eNot (eIsi "bool" (eVar 0)))))
def f_is_whole : Fn := fnOf 1 1 b_is_whole
def b_is_amount : Sv :=
  (sRet (eAnd (eCall f_is_whole (xR (eVar 0) xNil)) (eOp (fI fun i j => decide (j ≤ i)) (eVar 0) (eC (.int 0)))))
def f_is_amount : Fn := fnOf 1 1 b_is_amount
def b_is_person : Sv :=
  (sRet (eCall f_is_amount (xR (eVar 0) xNil)))
def f_is_person : Fn := fnOf 1 1 b_is_person
def b_is_post : Sv :=
  (sRet (eAnd (eCall f_is_whole (xR (eVar 0) xNil)) (eChain (fun i j => decide (i ≤ j)) (fun i j => decide (i < j)) (eC (.int 0)) (eVar 0) (eVar 1))))
def f_is_post : Fn := fnOf 2 2 b_is_post
def b_check_chart : Sv :=
  (sSeq (sIf (tvOr (tvNot (tvB (eIsi "tuple" (eVar 0)))) (tvOr (tvB (eOp fEq (eCb fLen (aCons (eRd (eVar 0)) aNil)) (eC (.int 0)))) (tvB (eOp fNotN (eOp fIx (eVar 0) (eC (.int 0))) (eC .none))))) (sRet (eTup (aCons (eDat (eC (.str "shape"))) aNil))) sNext)
  (sSeq (sFor (itRng2 (eC (.int 1)) (eCb fLen (aCons (eRd (eVar 0)) aNil))) (gvName 1) (sIf (tvNot (tvB (eCall f_is_post (xR (eOp fIx (eVar 0) (eVar 1)) (xR (eVar 1) xNil))))) (sRet (eTup (aCons (eDat (eC (.str "post"))) (aCons (eDat (eVar 1)) aNil)))) sNext))
  (sRet (eC .none))))
def f_check_chart : Fn := fnOf 2 1 b_check_chart
@[simp] theorem callAt_eq {f : Fn} {vs : List Xa} {ρ : Sts} : callAt f vs ρ = match arsOf ρ vs with
  | none => none
  | some ars => match f ars with
    | none => none
    | some (v, ms) => if (mals vs).Nodup ∧ (∀ j ∈ dals ρ vs, j ∉ mals vs) ∧ news vs ≤ 1 ∧ (dals ρ vs = [] ∨ flatR v ms = true) then (match mprs vs ms with
        | none => none
        | some ps => (putS ps ρ).map (v, ·)) else none := nrfl
section
variable {ρ : Sts} {x : PD} {v : Vl} {j : Nat} {ys : List PD} {xs : List Xa} {ms : List (List PD)} {ps : List (Nat × List PD)}
@[simp] theorem ars_0 : arsOf ρ [] = some [] := nrfl
@[simp] theorem ars_r : arsOf ρ (.r v :: xs) = match look ρ v, arsOf ρ xs with
  | some x, some as => some (.d x :: as)
  | _, _ => none := nrfl
@[simp] theorem ars_m : arsOf ρ (.m (.al j) :: xs) = match ρ[j]?, arsOf ρ xs with
  | some (.own _ ys), some as => some (.m ys :: as)
  | _, _ => none := nrfl
@[simp] theorem ars_n : arsOf ρ (.m (.new ys) :: xs) = (arsOf ρ xs).map (.m ys :: ·) := nrfl
@[simp] theorem mals_0 : mals [] = [] := nrfl
@[simp] theorem mals_r : mals (.r v :: xs) = mals xs := nrfl
@[simp] theorem mals_m : mals (.m (.al j) :: xs) = j :: mals xs := nrfl
@[simp] theorem mals_n : mals (.m (.new ys) :: xs) = mals xs := nrfl
@[simp] theorem news_0 : news [] = 0 := nrfl
@[simp] theorem news_r : news (.r v :: xs) = news xs := nrfl
@[simp] theorem news_m : news (.m (.al j) :: xs) = news xs := nrfl
@[simp] theorem news_n : news (.m (.new ys) :: xs) = news xs + 1 := nrfl
@[simp] theorem mprs_0 : mprs [] [] = some [] := nrfl
@[simp] theorem mprs_r : mprs (.r v :: xs) ms = mprs xs ms := by cases ms <;> exact nrfl
@[simp] theorem mprs_m : mprs (.m (.al j) :: xs) (ys :: ms) = (mprs xs ms).map ((j, ys) :: ·) := nrfl
@[simp] theorem mprs_n {zs : List PD} : mprs (.m (.new ys) :: xs) (zs :: ms) = mprs xs ms := nrfl
@[simp] theorem putS_0 : putS [] ρ = some ρ := nrfl
@[simp] theorem putS_1 : putS ((j, ys) :: ps) ρ = match ρ[j]? with
  | some (.own b _) => putS ps (ρ.set j (.own b ys))
  | _ => none := nrfl
@[simp] theorem dals_0 : dals ρ [] = [] := nrfl
@[simp] theorem dals_d : dals ρ (.r (.d x) :: xs) = dals ρ xs := nrfl
@[simp] theorem dals_al : dals ρ (.r (.al j) :: xs) = match ρ[j]? with
  | some (.own _ _) => j :: dals ρ xs
  | _ => dals ρ xs := nrfl
@[simp] theorem dals_n : dals ρ (.r (.new ys) :: xs) = dals ρ xs := nrfl
@[simp] theorem dals_m : dals ρ (.m v :: xs) = dals ρ xs := nrfl
@[simp] theorem frz_0 : frzA [] ρ = some ρ := nrfl
@[simp] theorem frz_1 {js : List Nat} : frzA (j :: js) ρ = match ρ[j]? with
  | some (.own true xs) => frzA js (ρ.set j (.d (.list xs)))
  | some (.d _) => frzA js ρ
  | _ => none := nrfl
@[simp] theorem flatR_d : flatR (.d x) ms = (flatD x && ms.all (·.all flatD)) := nrfl
@[simp] theorem flatR_n : flatR (.new ys) ms = (ys.all flatD && ms.all (·.all flatD)) := nrfl
@[simp] theorem flatR_a : flatR (.al j) ms = (false && ms.all (·.all flatD)) := nrfl
end
theorem at0 {xs : List PD} {d : PD} (h : xs[0]? = some d) : atI xs 0 = some d := at_nat (j := 0) h
@[simp] theorem w_whole {i : Int} : f_is_whole [.d (.int i)] = some (.d (.bool true), []) := by simp [f_is_whole, b_is_whole]
@[simp] theorem w_amount {i : Int} : f_is_amount [.d (.int i)] = some (.d (.bool (decide (0 ≤ i))), []) := by simp [f_is_amount, b_is_amount]
@[simp] theorem w_person {i : Int} : f_is_person [.d (.int i)] = some (.d (.bool (decide (0 ≤ i))), []) := by simp [f_is_person, b_is_person]
@[simp] theorem w_post {i j : Int} : f_is_post [.d (.int i), .d (.int j)] = some (.d (.bool (decide (0 ≤ i) && decide (i < j))), []) := by
  by_cases h : 0 ≤ i <;> simp [f_is_post, b_is_post, h]
theorem rng_ok {n : Nat} (h : n < 2 ^ 62) : rngOk (n : Int) = true := Nat.ble_eq_true_of_le (show n + 1 ≤ 4611686018427387904 by omega)
theorem rng_n1 {n : Nat} (h : n < 1000) : rngOk ((n : Int) + 1) = true := rng_ok (n := n + 1) (by omega)
@[simp] theorem rng_ok1 : rngOk 1 = true := by decide
@[simp] theorem rng_ok0 : rngOk 0 = true := by decide
theorem shp_s0 (s : String) : SeqAt.shaped (.str s) = true := shp_ok (n := 0) (shp_str s)
@[simp] theorem ch_len (t : List Nat) : fLen [chartD t] = some (.d (.int (t.length + 1))) := by
  show some (Vl.d (.int ((chartL t).length : Int))) = _
  rw [chart_len]; rfl
@[simp] theorem ch_ix (t : List Nat) (i : Int) : fIx (chartD t) (.int i) = (atI (chartL t) i).map .d := nrfl
@[simp] theorem ch_tup (t : List Nat) : isTupD (chartD t) = true := nrfl
@[simp] theorem ch_non (t : List Nat) : isNon (chartD t) = false := nrfl
@[simp] theorem ch_seq (t : List Nat) : seqOf (chartD t) = some (chartL t) := nrfl
@[simp] theorem ch_at0 (t : List Nat) : atI (chartL t) 0 = some .none := at0 (chart_at0 t)
@[simp] theorem nz (n : Nat) : ((n : Int) + 1 = 0) = False := eq_false (by omega)

theorem w_check_chart {t : List Nat} (c : Chart t) (l : t.length < 1000) : f_check_chart [.d (chartD t)] = some (.d .none, []) := by
  refine ok_fn rfl (ok_seq ?_)
  simp
  refine ok_seq (ok_for (ds := rngD 1 t.length) (by simp [rng_n1 l]; rfl) (fun _ ρ => ∃ x, ρ = [.d (chartD t), x]) ⟨_, rfl⟩ ?_ ?_)
  · rintro k x ρ hk ⟨y, rfl⟩
    obtain ⟨lk, rfl⟩ := rng_at hk
    obtain ⟨p, hp⟩ : ∃ p, t[k]? = some p := ⟨_, List.getElem?_eq_getElem lk⟩
    have lp := c k p hp
    have hc := at_nat (chart_at hp)
    have e1 : (1 : Int) + (k : Nat) = ((k + 1 : Nat) : Int) := by omega
    rw [e1]
    have lp2 : (p : Int) < ((k + 1 : Nat) : Int) := by omega
    refine ⟨_, rfl, ?_⟩
    simp [-Int.natCast_add, hc, lp2]
  · rintro ρ ⟨x, rfl⟩
    simp
def b_require_chart : Sv :=
  (sSeq (sSet 1 (eCall f_check_chart (xR (eVar 0) xNil)))
  (sIf (tvB (eOp fNotN (eVar 1) (eC .none))) sNever sNext))
def f_require_chart : Fn := fnOf 2 1 b_require_chart
def b_require_post : Sv :=
  (sIf (tvNot (tvB (eCall f_is_post (xR (eVar 1) (xR (eCb fLen (aCons (eRd (eVar 0)) aNil)) xNil))))) sNever sNext)
def f_require_post : Fn := fnOf 2 2 b_require_post
def b_may_stand_below : Sv :=
  (sRet (eAnd (eOp fNotN (eVar 1) (eC .none)) (eOp (fI fun i j => decide (i < j)) (eVar 1) (eVar 0))))
def f_may_stand_below : Fn := fnOf 2 2 b_may_stand_below
def b_check_arrangement : Sv :=
  (sSeq (sExpr (eCall f_require_chart (xR (eVar 0) xNil)))
  (sSeq (sIf (tvOr (tvNot (tvB (eIsi "tuple" (eVar 1)))) (tvB (eOp fNe (eCb fLen (aCons (eRd (eVar 1)) aNil)) (eCb fLen (aCons (eRd (eVar 0)) aNil))))) (sRet (eTup (aCons (eDat (eC (.str "shape"))) aNil))) sNext)
  (sSeq (sFor (itEnum (eVar 1)) (gvTup 2 (gvsCons (gvName 2) (gvsCons (gvName 3) gvsNil))) (sIf (tvAnd (tvB (eOp fNotN (eVar 3) (eC .none))) (tvNot (tvB (eCall f_is_person (xR (eVar 3) xNil))))) (sRet (eTup (aCons (eDat (eC (.str "person"))) (aCons (eDat (eVar 2)) aNil)))) sNext))
  (sSeq (sSetN 4)
  (sSeq (sFor (itEnum (eVar 1)) (gvTup 2 (gvsCons (gvName 2) (gvsCons (gvName 3) gvsNil))) (sSeq (sIf (tvAnd (tvB (eOp fNotN (eVar 3) (eC .none))) (tvB (eInN false (eVar 3) 4))) (sRet (eTup (aCons (eDat (eC (.str "twice"))) (aCons (eDat (eVar 2)) aNil)))) sNext)
  (sAddN 4 (eVar 3))))
  (sSeq (sFor (itRng2 (eC (.int 1)) (eCb fLen (aCons (eRd (eVar 0)) aNil))) (gvName 2) (sIf (tvAnd (tvB (eOp fNotN (eOp fIx (eVar 1) (eVar 2)) (eC .none))) (tvNot (tvB (eCall f_may_stand_below (xR (eOp fIx (eVar 1) (eVar 2)) (xR (eOp fIx (eVar 1) (eOp fIx (eVar 0) (eVar 2))) xNil)))))) (sRet (eTup (aCons (eDat (eC (.str "order"))) (aCons (eDat (eVar 2)) aNil)))) sNext))
  (sRet (eC .none))))))))
def f_check_arrangement : Fn := fnOf 5 2 b_check_arrangement
def b_require_arrangement : Sv :=
  (sSeq (sSet 2 (eCall f_check_arrangement (xR (eVar 0) (xR (eVar 1) xNil))))
  (sIf (tvB (eOp fNotN (eVar 2) (eC .none))) sNever sNext))
def f_require_arrangement : Fn := fnOf 3 2 b_require_arrangement
def b_is_open : Sv :=
  (sRet (eAnd (eOp fIsN (eOp fIx (eVar 1) (eVar 2)) (eC .none)) (eOr (eOp fEq (eVar 2) (eC (.int 0))) (eOp fNotN (eOp fIx (eVar 1) (eOp fIx (eVar 0) (eVar 2))) (eC .none)))))
def f_is_open : Fn := fnOf 3 3 b_is_open
def b_all_open : Sv :=
  (sRet (eLc [2] (itRng1 (eCb fLen (aCons (eRd (eVar 0)) aNil))) (gvName 2) (tvB (eCall f_is_open (xR (eVar 0) (xR (eVar 1) (xR (eVar 2) xNil))))) (eVar 2)))
def f_all_open : Fn := fnOf 3 2 b_all_open
def b_open_posts : Sv :=
  (sSeq (sExpr (eCall f_require_arrangement (xR (eVar 0) (xR (eVar 1) xNil))))
  (sRet (eCall f_all_open (xR (eVar 0) (xR (eVar 1) xNil)))))
def f_open_posts : Fn := fnOf 2 2 b_open_posts
def b_place_of : Sv :=
  (sRet (eIf (tvB (eOp (fIn false) (eVar 1) (eVar 0))) (eIndex (eVar 0) (eVar 1)) (eC .none)))
def f_place_of : Fn := fnOf 2 2 b_place_of
def b_post_of : Sv :=
  (sSeq (sExpr (eCall f_require_arrangement (xR (eVar 0) (xR (eVar 1) xNil))))
  (sSeq (sIf (tvNot (tvB (eCall f_is_person (xR (eVar 2) xNil)))) sNever sNext)
  (sRet (eCall f_place_of (xR (eVar 1) (xR (eVar 2) xNil))))))
def f_post_of : Fn := fnOf 3 3 b_post_of
def b_way_down : Sv :=
  (sSeq (sSet 2 (eLst (aCons (eDat (eVar 1)) aNil)))
  (sSeq (whileL (tvB (eOp fNotN (eOp fIx (eVar 0) (eOp fIx (eVar 2) (eUn fNeg (eC (.int 1))))) (eC .none))) (sAppend 2 (eOp fIx (eVar 0) (eOp fIx (eVar 2) (eUn fNeg (eC (.int 1)))))) 100000)
  (sSeq (sReverse 2)
  (sRet (eVar 2)))))
def f_way_down : Fn := fnOf 3 2 b_way_down
def b_path_to : Sv :=
  (sSeq (sExpr (eCall f_require_chart (xR (eVar 0) xNil)))
  (sSeq (sExpr (eCall f_require_post (xR (eVar 0) (xR (eVar 1) xNil))))
  (sRet (eCall f_way_down (xR (eVar 0) (xR (eVar 1) xNil))))))
def f_path_to : Fn := fnOf 2 2 b_path_to
def b_posts_below : Sv :=
  (sSeq (sExpr (eCall f_require_chart (xR (eVar 0) xNil)))
  (sSeq (sExpr (eCall f_require_post (xR (eVar 0) (xR (eVar 1) xNil))))
  (sSeq (sSet1 2 (eVar 1))
  (sSeq (sFor (itRng2 (eOp fAdd (eVar 1) (eC (.int 1))) (eCb fLen (aCons (eRd (eVar 0)) aNil))) (gvName 3) (sIf (tvB (eInI false (eOp fIx (eVar 0) (eVar 3)) 2)) (sAddI 2 (eVar 3)) sNext))
  (sRet (eSortSet 2))))))
def f_posts_below : Fn := fnOf 4 2 b_posts_below
def b_common_post : Sv :=
  (sSeq (sExpr (eCall f_require_chart (xR (eVar 0) xNil)))
  (sSeq (sExpr (eCall f_require_post (xR (eVar 0) (xR (eVar 1) xNil))))
  (sSeq (sExpr (eCall f_require_post (xR (eVar 0) (xR (eVar 2) xNil))))
  (sSeq (whileL (tvB (eOp fNe (eVar 1) (eVar 2))) (sIf (tvB (eOp (fI fun i j => decide (j < i)) (eVar 1) (eVar 2))) (sSet 1 (eOp fIx (eVar 0) (eVar 1))) (sSet 2 (eOp fIx (eVar 0) (eVar 2)))) 100000)
  (sRet (eVar 1))))))
def f_common_post : Fn := fnOf 3 3 b_common_post
theorem w_require_chart {t : List Nat} (c : Chart t) (l : t.length < 1000) : f_require_chart [.d (chartD t)] = some (.d .none, []) := by
  refine ok_fn rfl ?_
  simp [b_require_chart, sSeq_eq, w_check_chart c l]
theorem w_require_post {t : List Nat} {j : Nat} (l : j < t.length + 1) : f_require_post [.d (chartD t), .d (.int j)] = some (.d .none, []) := by
  refine ok_fn rfl ?_
  have h : (j : Int) < (t.length : Int) + 1 := by omega
  simp [b_require_post, h]
theorem w_below {n m : Nat} (h : m < n) : f_may_stand_below [.d (.int n), .d (.int m)] = some (.d (.bool true), []) := by
  refine ok_fn rfl ?_
  simp [b_may_stand_below, h]
@[simp] theorem row_tup (r : List (Option Nat)) : isTupD (rowD r) = true := nrfl
@[simp] theorem row_seq (r : List (Option Nat)) : seqOf (rowD r) = some (rowL r) := nrfl
@[simp] theorem row_nn (r : List (Option Nat)) : isNon (rowD r) = false := nrfl
@[simp] theorem row_ix (r : List (Option Nat)) (i : Int) : fIx (rowD r) (.int i) = (atI (rowL r) i).map .d := nrfl
@[simp] theorem row_fl (r : List (Option Nat)) : fLen [rowD r] = some (.d (.int r.length)) := by
  show some (Vl.d (.int ((rowL r).length : Int))) = _
  rw [row_len]
theorem shp_row (r : List (Option Nat)) : Shp 1 (rowD r) := shp_tuple fun x h => by
  obtain ⟨c, _, rfl⟩ := List.mem_map.mp h
  cases c
  · exact shp_none
  · exact shp_int
theorem w_is_open {t : List Nat} {r : List (Option Nat)} (c : Chart t) (rl : r.length = t.length + 1) {k : Nat} (lk : k < t.length + 1) {xd : PD} (hx : xd = .list (rowL r) ∨ xd = .tuple (rowL r)) : f_is_open [.d (chartD t), .d xd, .d (.int k)] = some (.d (.bool (opn t r k)), []) := by
  obtain ⟨cc, hc⟩ := row_has (r := r) (k := k) (by omega)
  have hix : ∀ i : Int, fIx xd (.int i) = (atI (rowL r) i).map .d := fun i => by rcases hx with rfl | rfl <;> rfl
  have h1 := at_nat (row_at hc)
  have e1 := hold_at hc
  refine ok_fn rfl ?_
  cases cc with
  | some n => simp [b_is_open, hix, h1, cellD, opn, e1]
  | none =>
    by_cases z : k = 0
    · subst z
      simp at h1
      simp [b_is_open, hix, h1, cellD, opn, e1]
    · obtain ⟨p, hp⟩ := chart_has (by omega) lk
      have h2 : atI (chartL t) (k : Int) = some (.int p) := by
        have := at_nat (chart_at hp)
        rwa [show k - 1 + 1 = k by omega] at this
      have lp := c _ _ hp
      obtain ⟨cp, hcp⟩ := row_has (r := r) (k := p) (by omega)
      have h3 := at_nat (row_at hcp)
      cases cp <;> simp [b_is_open, hix, h1, h2, h3, cellD, opn, e1, par_at hp, hold_at hcp, z]
/-- a comprehension's turn -/
def lcT (vs : List Nat) (gv : Gv) (tv : Tv) (e : Ev) (x : PD) (ρ : Sts) : Option (Option PD × Sts) := match gv x ρ with
  | none => none
  | some ρa => match tv ρa with
    | none => none
    | some (false, ρb) => some (none, wipeS ρb vs)
    | some (true, ρb) => match eDat e ρb with
      | some (.d y, ρc) => some (some y, wipeS ρc vs)
      | _ => none
@[simp] theorem lcT_eq {vs : List Nat} {gv : Gv} {tv : Tv} {e : Ev} {x : PD} {ρ : Sts} : lcT vs gv tv e x ρ = match gv x ρ with
  | none => none
  | some ρa => match tv ρa with
    | none => none
    | some (false, ρb) => some (none, wipeS ρb vs)
    | some (true, ρb) => match eDat e ρb with
      | some (.d y, ρc) => some (some y, wipeS ρc vs)
      | _ => none := nrfl

theorem lcL_of {vs : List Nat} {gv : Gv} {tv : Tv} {e : Ev} {ρ : Sts} (f : PD → Option PD) : ∀ {ds : List PD}, (∀ (k : Nat) (x : PD), ds[k]? = some x → lcT vs gv tv e x ρ = some (f x, ρ)) → lcL vs gv tv e ds ρ = some (ds.filterMap f, ρ)
  | [], _ => rfl
  | d :: ds, h => by
    have ih := lcL_of f (ds := ds) fun k x e => h (k + 1) x (by simpa using e)
    have h0 := h 0 d rfl
    unfold lcT at h0
    unfold lcL
    cases e1 : gv d ρ with
    | none => rw [e1] at h0; cases h0
    | some ρa =>
      rw [e1] at h0
      dsimp only at h0 ⊢
      cases e2 : tv ρa with
      | none => rw [e2] at h0; cases h0
      | some q =>
        obtain ⟨b, ρb⟩ := q
        rw [e2] at h0
        cases b with
        | false =>
          dsimp only at h0 ⊢
          have h0' := Option.some.inj h0
          have h1 := congrArg Prod.fst h0'
          have h2 := congrArg Prod.snd h0'
          dsimp only at h1 h2
          rw [h2, ih, List.filterMap_cons, ← h1]
        | true =>
          dsimp only at h0 ⊢
          split at h0
          · rename_i y ρc e3
            try rw [e3]
            have h0' := Option.some.inj h0
            have h1 := congrArg Prod.fst h0'
            have h2 := congrArg Prod.snd h0'
            dsimp only at h1 h2 ⊢
            rw [h2, ih, List.filterMap_cons, ← h1]
            rfl
          · cases h0
theorem lc_eq {vs : List Nat} {it : Iv} {gv : Gv} {tv : Tv} {e : Ev} {ρ ρ1 : Sts} {ds : List PD} (f : PD → Option PD) (hi : it ρ = some (ds, ρ1)) (hl : ds.length ≤ 100000) (h : ∀ (k : Nat) (x : PD), ds[k]? = some x → lcT vs gv tv e x (wipeS ρ1 vs) = some (f x, wipeS ρ1 vs)) : eLc vs it gv tv e ρ = some (.new (ds.filterMap f), backS ρ1 vs (wipeS ρ1 vs)) := by
  rw [eLc_eq, hi]
  dsimp only
  rw [if_pos hl, lcL_of f h]
theorem chart_look {t : List Nat} (c : Chart t) {z : Nat} (h0 : 0 < z) (hz : z < t.length + 1) : ∃ p, t[z - 1]? = some p ∧ p < z ∧ atI (chartL t) (z : Int) = some (.int p) ∧ way t z = way t p ++ [z] := by
  obtain ⟨p, hp⟩ := chart_has (t := t) h0 hz
  have e := chart_at hp
  rw [show z - 1 + 1 = z by omega] at e
  exact ⟨p, hp, (way_step c h0 hp).2, at_nat e, (way_step c h0 hp).1⟩
theorem w_all_open {t : List Nat} {r : List (Option Nat)} (c : Chart t) (rl : r.length = t.length + 1) (l : t.length < 1000) {xd : PD} (hx : xd = .list (rowL r) ∨ xd = .tuple (rowL r)) : f_all_open [.d (chartD t), .d xd] = some (.new (intsD (openL t r)), []) := by
  refine ok_fn rfl ?_
  have e := lc_eq (vs := [2]) (it := itRng1 (eCb fLen (aCons (eRd (eVar 0)) aNil))) (gv := gvName 2) (tv := tvB (eCall f_is_open (xR (eVar 0) (xR (eVar 1) (xR (eVar 2) xNil))))) (e := eVar 2) (ρ := [.d (chartD t), .d xd, .emp]) (ρ1 := [.d (chartD t), .d xd, .emp]) (ds := rngD 0 (t.length + 1)) (selD (opn t r)) (by simp [rng_n1 l]) (by rw [rng_len]; omega) (fun k x hk => by
    obtain ⟨lk, rfl⟩ := rng_at hk
    rw [Int.zero_add, sel_at]
    cases h : opn t r k <;> simp [w_is_open c rl lk hx, h])
  rw [filt_range _ _ _ (sel_at _)] at e
  simp [b_all_open, e, openL, -eLc_eq]
theorem keys_lt {ks : List (Option Key)} {k : Option Key} {n : Nat} (h : ks.length ≤ n) : (addN ks k).length ≤ n + 1 := by
  unfold addN
  split
  · omega
  · rw [List.length_append, List.length_singleton]; omega
theorem keys_mem {ks : List (Option Key)} {k y : Option Key} : y ∈ addN ks k ↔ y ∈ ks ∨ y = k := by
  unfold addN
  split
  · rename_i h
    obtain ⟨x, hx, e⟩ := List.any_eq_true.mp h
    have := of_decide_eq_true e
    subst this
    exact ⟨.inl, fun z => z.elim id fun z => z ▸ hx⟩
  · rw [List.mem_append, List.mem_singleton]
theorem keys_no {ks : List (Option Key)} {k : Option Key} (h : k ∉ ks) : (ks.any fun y => decide (y = k)) = false := Bool.eq_false_iff.mpr fun z => by
  obtain ⟨x, hx, e⟩ := List.any_eq_true.mp z
  exact h (of_decide_eq_true e ▸ hx)
theorem keys_yes {ks : List (Option Key)} {k : Option Key} (h : k ∈ ks) : (ks.any fun y => decide (y = k)) = true := List.any_eq_true.mpr ⟨k, h, decide_eq_true rfl⟩
theorem w_check_arr {t : List Nat} {r : List (Option Nat)} (c : Chart t) (l : t.length < 1000) (a : Arr t r) : f_check_arrangement [.d (chartD t), .d (rowD r)] = some (.d .none, []) := by
  refine ok_fn rfl (ok_seq ?_)
  simp [w_require_chart c l]
  refine ok_seq ?_
  simp [a.len]
  refine ok_seq (ok_for (ρ1 := [.d (chartD t), .d (rowD r), .emp, .emp, .emp]) (ds := enumD (rowL r)) (by simp [rowD]) (fun _ ρ => ∃ x y, ρ = [.d (chartD t), .d (rowD r), x, y, .emp]) ⟨_, _, rfl⟩ ?_ ?_)
  · rintro k x ρ hk ⟨x1, x2, rfl⟩
    obtain ⟨d, hd, rfl⟩ := enum_at hk
    obtain ⟨cc, hc, rfl⟩ := row_of hd
    refine ⟨[.d (chartD t), .d (rowD r), .d (.int k), .d (cellD cc), .emp], by simp, ?_⟩
    cases cc <;> simp [cellD]
  rintro ρ ⟨x1, x2, rfl⟩
  simp
  refine ok_seq ?_
  simp
  refine ok_seq (ok_for (ρ1 := [.d (chartD t), .d (rowD r), x1, x2, .nset []]) (ds := enumD (rowL r)) (by simp [rowD]) (fun k ρ => ∃ x y ks, ρ = [.d (chartD t), .d (rowD r), x, y, .nset ks] ∧ ks.length ≤ k ∧ ∀ n : Nat, some (.inl (n : Int)) ∈ ks → ∃ m, m < k ∧ r[m]? = some (some n)) ⟨_, _, [], rfl, Nat.le_refl _, by simp⟩ ?_ ?_)
  · rintro k x ρ hk ⟨x1, x2, ks, rfl, kl, km⟩
    obtain ⟨d, hd, rfl⟩ := enum_at hk
    obtain ⟨cc, hc, rfl⟩ := row_of hd
    have lk : k < t.length + 1 := by rw [← a.len]; exact (List.getElem?_eq_some_iff.mp hc).1
    refine ⟨[.d (chartD t), .d (rowD r), .d (.int k), .d (cellD cc), .nset ks], by simp, ?_⟩
    cases cc with
    | none =>
      have l4 : ks.length < 4000 := by omega
      refine ok_seq ?_
      simp [cellD, l4]
      refine ⟨_, _, _, ⟨rfl, rfl, rfl⟩, keys_lt kl, fun n h => ?_⟩
      rcases keys_mem.mp h with h | h
      · obtain ⟨m, lm, em⟩ := km n h
        exact ⟨m, by omega, em⟩
      · cases h
    | some n =>
      have l4 : ks.length < 4000 := by omega
      have nk : ¬ some (Sum.inl (n : Int)) ∈ ks := fun h => by
        obtain ⟨m, lm, em⟩ := km n h
        have := a.inj _ _ _ em hc
        omega
      refine ok_seq ?_
      simp [cellD, l4, keys_no nk]
      refine ⟨_, _, _, ⟨rfl, rfl, rfl⟩, keys_lt kl, fun n' h => ?_⟩
      rcases keys_mem.mp h with h | h
      · obtain ⟨m, lm, em⟩ := km n' h
        exact ⟨m, by omega, em⟩
      · have e2 : n' = n := by
          have := Option.some.inj h
          have := Sum.inl.inj this
          omega
        subst e2
        exact ⟨k, by omega, hc⟩
  rintro ρ ⟨x1, x2, ks, rfl, kl, km⟩
  simp
  refine ok_seq (ok_for (ρ1 := [.d (chartD t), .d (rowD r), x1, x2, .nset ks]) (ds := rngD 1 t.length) (by simp [rng_n1 l]) (fun _ ρ => ∃ x, ρ = [.d (chartD t), .d (rowD r), x, x2, .nset ks]) ⟨_, rfl⟩ ?_ ?_)
  · rintro k x ρ hk ⟨y, rfl⟩
    obtain ⟨lk, rfl⟩ := rng_at hk
    obtain ⟨p, hp⟩ : ∃ p, t[k]? = some p := ⟨_, List.getElem?_eq_getElem lk⟩
    have hc := at_nat (chart_at hp)
    have e1 : (1 : Int) + (k : Nat) = ((k + 1 : Nat) : Int) := by omega
    rw [e1]
    obtain ⟨cc, hcc⟩ := row_has (r := r) (k := k + 1) (by have := a.len; omega)
    have h1 := at_nat (row_at hcc)
    refine ⟨_, rfl, ?_⟩
    cases cc with
    | none => simp [-Int.natCast_add, h1, cellD]
    | some n =>
      obtain ⟨m, hm, lm⟩ := a.ord _ _ _ hp hcc
      have h2 := at_nat (row_at hm)
      simp only [cellD] at h1 h2
      simp [-Int.natCast_add, h1, h2, hc, w_below lm]
  · rintro ρ ⟨x, rfl⟩
    simp
theorem w_require_arr {t : List Nat} {r : List (Option Nat)} (c : Chart t) (l : t.length < 1000) (a : Arr t r) : f_require_arrangement [.d (chartD t), .d (rowD r)] = some (.d .none, []) := by
  refine ok_fn rfl ?_
  simp [b_require_arrangement, sSeq_eq, w_check_arr c l a]
theorem w_open_posts {t : List Nat} {r : List (Option Nat)} (c : Chart t) (l : t.length < 1000) (a : Arr t r) : f_open_posts [.d (chartD t), .d (rowD r)] = some (.new (intsD (openL t r)), []) := by
  refine ok_fn rfl ?_
  simp [b_open_posts, sSeq_eq, w_require_arr c l a, w_all_open (xd := rowD r) c a.len l (.inr rfl)]

end MU

namespace MU
open PySem PySem.Spec L2
theorem idx_of {ds : List PD} {y z : PD} : ∀ {j k : Nat}, ds[j]? = some z → PyData.eqv z y = true → (∀ (m : Nat) (x : PD), m < j → ds[m]? = some x → PyData.eqv x y = false) → idxD y ds k = some (k + j) := by
  induction ds with
  | nil => intro j k h; cases h
  | cons d ds ih =>
    intro j k h e f
    unfold idxD
    cases j with
    | zero =>
      cases h
      rw [if_pos e]
      rfl
    | succ j =>
      have e0 := f 0 d (by omega) rfl
      rw [if_neg (by rw [e0]; decide), ih (j := j) (k := k + 1) (by simpa using h) e fun m x l hx => f (m + 1) x (by omega) (by simpa using hx), show k + 1 + j = k + (j + 1) by omega]
theorem row_idx {r : List (Option Nat)} {n j : Nat} (h : r[j]? = some (some n)) (f : ∀ m, m < j → r[m]? ≠ some (some n)) : idxD (.int n) (rowL r) 0 = some j := by
  have e := idx_of (y := .int n) (k := 0) (row_at h) (by rw [eqv_cell]; exact decide_eq_true rfl) fun m x l hx => by
    obtain ⟨c, hc, rfl⟩ := row_of hx
    rw [eqv_cell]
    exact decide_eq_false fun z => f m l (z ▸ hc)
  rwa [Nat.zero_add] at e
@[simp] theorem row_fl' (r : List (Option Nat)) : (rowL r).all flatD = true := row_flat r
@[simp] theorem row_in (r : List (Option Nat)) (n : Nat) (neg : Bool) : fIn neg (.int n) (rowD r) = some (.d (.bool (if neg then !decide (some n ∈ r) else decide (some n ∈ r)))) := by
  show fIn neg (.int n) (.tuple (rowL r)) = _
  rw [fIn_t, any_row, row_fl']
  rfl
@[simp] theorem row_inL (r : List (Option Nat)) (n : Nat) (neg : Bool) : fIn neg (.int n) (.list (rowL r)) = some (.d (.bool (if neg then !decide (some n ∈ r) else decide (some n ∈ r)))) := by
  rw [fIn_l, any_row, row_fl']
  rfl
theorem w_place_of {r : List (Option Nat)} (n : Nat) : f_place_of [.d (rowD r), .d (.int n)] = some (.d (posD r n), []) := by
  refine ok_fn rfl ?_
  by_cases h : some n ∈ r
  · obtain ⟨j, hj, hm⟩ := idx_at h
    simp [b_place_of, h, row_idx hj hm, pos_at hj hm, cell_flat]
  · simp [b_place_of, h, pos_no h]
theorem w_post_of {t : List Nat} {r : List (Option Nat)} (c : Chart t) (l : t.length < 1000) (a : Arr t r) (n : Nat) : f_post_of [.d (chartD t), .d (rowD r), .d (.int n)] = some (.d (posD r n), []) := by
  refine ok_fn rfl ?_
  simp [b_post_of, sSeq_eq, w_require_arr c l a, w_place_of]
@[simp] theorem ints_app (l l' : List Nat) : intsD (l ++ l') = intsD l ++ intsD l' := List.map_append
@[simp] theorem ints_c (n : Nat) (l : List Nat) : intsD (n :: l) = .int n :: intsD l := rfl
@[simp] theorem ints_0 : intsD [] = [] := rfl
@[simp] theorem ints_len (l : List Nat) : (intsD l).length = l.length := List.length_map ..
theorem ints_rev (l : List Nat) : (intsD l).reverse = intsD l.reverse := List.map_reverse.symm
@[simp] theorem at_end {xs : List PD} {d : PD} : atI (xs ++ [d]) (-1) = some d := at_last
theorem w_way_down {t : List Nat} (c : Chart t) (l : t.length < 1000) {j : Nat} (lj : j < t.length + 1) : f_way_down [.d (chartD t), .d (.int j)] = some (.new (intsD (way t j)), []) := by
  refine ok_fn rfl (ok_seq ?_)
  simp
  refine ok_seq (ok_while (m := j) (fun n ρ => ∃ (q : Nat) (pre : List Nat), q = n ∧ q ≤ j ∧ way t j = way t q ++ pre.reverse ∧ pre.length ≤ j - q ∧ ρ = [.d (chartD t), .d (.int j), .own true (intsD (pre ++ [q]))]) ⟨j, [], rfl, Nat.le_refl _, by simp, by simp, rfl⟩ (by omega) ?_)
  rintro n ρ ⟨q, pre, rfl, lq, ew, lp, rfl⟩
  by_cases h0 : 0 < q
  · obtain ⟨p, hp, lpq, ha, es⟩ := chart_look c h0 (by omega)
    have l5 : pre.length + 1 < 100000 := by omega
    refine ⟨true, [.d (chartD t), .d (.int j), .own true (intsD (pre ++ [q]))], by simp [ha], fun z => (by cases z), fun _ => ?_⟩
    exact ok_run (fl := .next) (ρ' := [.d (chartD t), .d (.int j), .own true (intsD (pre ++ [q] ++ [p]))]) (by simp [ha, l5]) ⟨p, lpq, p, pre ++ [q], rfl, by omega, by rw [ew, es]; simp, by simp; omega, rfl⟩
  · have e0 : q = 0 := by omega
    subst e0
    refine ⟨false, [.d (chartD t), .d (.int j), .own true (intsD (pre ++ [0]))], by simp, fun _ => ?_, fun z => (by cases z)⟩
    simp
    refine ok_seq ?_
    simp
    rw [ew, way_zero]
    simp [ints_rev]
theorem w_path_to {t : List Nat} (c : Chart t) (l : t.length < 1000) {j : Nat} (lj : j < t.length + 1) : f_path_to [.d (chartD t), .d (.int j)] = some (.new (intsD (way t j)), []) := by
  refine ok_fn rfl ?_
  simp [b_path_to, sSeq_eq, w_require_chart c l, w_require_post lj, w_way_down c l lj]
theorem adds_mem {ks : List Int} {k y : Int} : y ∈ addI ks k ↔ y ∈ ks ∨ y = k := by
  unfold addI
  split
  · rename_i h
    obtain ⟨x, hx, e⟩ := List.any_eq_true.mp h
    have := of_decide_eq_true e
    subst this
    exact ⟨.inl, fun z => z.elim id fun z => z ▸ hx⟩
  · rw [List.mem_append, List.mem_singleton]
theorem adds_nodup {ks : List Int} {k : Int} (h : ks.Nodup) : (addI ks k).Nodup := by
  unfold addI
  split
  · exact h
  · rename_i g
    refine List.nodup_append.mpr ⟨h, List.nodup_cons.mpr ⟨List.not_mem_nil, List.nodup_nil⟩, fun x hx y hy e => g ?_⟩
    rw [List.mem_singleton] at hy
    exact List.any_eq_true.mpr ⟨x, hx, decide_eq_true (e.trans hy)⟩
theorem adds_len {ks : List Int} {k : Int} {n : Nat} (h : ks.length ≤ n) : (addI ks k).length ≤ n + 1 := by
  unfold addI
  split
  · omega
  · rw [List.length_append, List.length_singleton]; omega
theorem nodup_perm {l l' : List Int} (h : l.Nodup) (h' : l'.Nodup) (e : ∀ x, x ∈ l ↔ x ∈ l') : l.Perm l' := (List.perm_ext_iff_of_nodup h h').mpr e
theorem sort_ints {ks : List Int} {l : List Nat} (h : ks.Nodup) (hs : l.Pairwise (· < ·)) (e : ∀ x : Int, x ∈ ks ↔ ∃ j : Nat, x = j ∧ j ∈ l) : (sortI ks).map PyData.int = intsD l := by
  have q := cast_lt hs
  rw [intsD_eq, ← sortI_uniq (l := ks) (l' := l.map fun n : Nat => (n : Int)) (nodup_perm (q.imp fun {a b} h => by omega) h fun x => ?_) (q.imp fun {a b} h => by omega)]
  rw [e, List.mem_map]
  exact ⟨fun ⟨j, h, e⟩ => ⟨j, e.symm, h⟩, fun ⟨j, e, h⟩ => ⟨j, h, e.symm⟩⟩
theorem w_posts_below {t : List Nat} (c : Chart t) (l : t.length < 63) {q : Nat} (lj : q < t.length + 1) : f_posts_below [.d (chartD t), .d (.int q)] = some (.new (intsD (belowL t q)), []) := by
  refine ok_fn rfl (ok_seq ?_)
  simp [w_require_chart c (show t.length < 1000 by omega)]
  refine ok_seq ?_
  simp [w_require_post lj]
  refine ok_seq ?_
  simp
  have rq : rngOk ((q : Int) + 1) = true := rng_n1 (by omega)
  refine ok_seq (ok_for (ρ1 := [.d (chartD t), .d (.int q), .iset [(q : Int)], .emp]) (ds := rngD (q + 1) (t.length - q)) (by
      simp [rq, rng_n1 (show t.length < 1000 by omega)]
      rw [show ((t.length : Int) + 1 - (q + 1)).toNat = t.length - q by omega])
    (fun i ρ => ∃ (ks : List Int) (x : Sl), ρ = [.d (chartD t), .d (.int q), .iset ks, x] ∧ ks.length ≤ i + 1 ∧ ks.Nodup ∧ ∀ x : Int, x ∈ ks ↔ ∃ j : Nat, x = j ∧ j < q + 1 + i ∧ q ∈ way t j) ⟨_, _, rfl, Nat.le_refl _, by simp, fun x => ?_⟩ ?_ ?_)
  · rw [List.mem_singleton]
    constructor
    · rintro rfl
      exact ⟨q, rfl, by omega, way_self q⟩
    · rintro ⟨j, rfl, h1, h2⟩
      have := way_le c j (by omega) q h2
      omega
  · rintro k x ρ hk ⟨ks, y, rfl, kl, nd, hS⟩
    obtain ⟨hk, rfl⟩ := rng_at hk
    have ek : (q : Int) + 1 + (k : Nat) = ((q + 1 + k : Nat) : Int) := by omega
    rw [ek]
    obtain ⟨p, hp, lp, ea, ew⟩ := chart_look c (z := q + 1 + k) (by omega) (by omega)
    have hin : (p : Int) ∈ ks ↔ q ∈ way t (q + 1 + k) := by
      rw [hS, ew]
      constructor
      · rintro ⟨j, ej, h1, h2⟩
        have : j = p := by omega
        subst this
        exact List.mem_append_left _ h2
      · intro h
        rcases List.mem_append.mp h with h | h
        · exact ⟨p, rfl, lp, h⟩
        · rw [List.mem_singleton] at h
          omega
    refine ⟨_, rfl, ?_⟩
    have l4 : ks.length < 4000 := by omega
    by_cases h : (p : Int) ∈ ks
    · have ha : (ks.any fun y => decide (y = (p : Int))) = true := List.any_eq_true.mpr ⟨_, h, decide_eq_true rfl⟩
      refine ok_yes (ρ1 := [.d (chartD t), .d (.int q), .iset ks, .d (.int ((q + 1 + k : Nat) : Int))]) (by simp [-Int.natCast_add, ea, ha]) ?_
      refine ok_run (fl := .next) (ρ' := [.d (chartD t), .d (.int q), .iset (addI ks ((q + 1 + k : Nat) : Int)), .d (.int ((q + 1 + k : Nat) : Int))]) (by simp [-Int.natCast_add, l4]) ⟨_, _, rfl, adds_len kl, adds_nodup nd, fun x => ?_⟩
      rw [adds_mem, hS]
      constructor
      · rintro (⟨j, rfl, h1, h2⟩ | rfl)
        · exact ⟨j, rfl, by omega, h2⟩
        · exact ⟨q + 1 + k, rfl, by omega, hin.mp h⟩
      · rintro ⟨j, rfl, h1, h2⟩
        by_cases z : j = q + 1 + k
        · exact .inr (by rw [z])
        · exact .inl ⟨j, rfl, by omega, h2⟩
    · have ha : (ks.any fun y => decide (y = (p : Int))) = false := Bool.eq_false_iff.mpr fun z => by
        obtain ⟨x, hx, e⟩ := List.any_eq_true.mp z
        exact h (of_decide_eq_true e ▸ hx)
      refine ok_no (ρ1 := [.d (chartD t), .d (.int q), .iset ks, .d (.int ((q + 1 + k : Nat) : Int))]) (by simp [-Int.natCast_add, ea, ha]) ?_
      refine ok_run (fl := .next) (ρ' := [.d (chartD t), .d (.int q), .iset ks, .d (.int ((q + 1 + k : Nat) : Int))]) (by simp [-Int.natCast_add]) ⟨_, _, rfl, by omega, nd, fun x => ?_⟩
      rw [hS]
      constructor
      · rintro ⟨j, rfl, h1, h2⟩
        exact ⟨j, rfl, by omega, h2⟩
      · rintro ⟨j, rfl, h1, h2⟩
        by_cases z : j = q + 1 + k
        · subst z
          exact absurd (hin.mpr h2) h
        · exact ⟨j, rfl, by omega, h2⟩
  · rintro ρ ⟨ks, x, rfl, kl, nd, hS⟩
    rw [rng_len] at kl
    have l6 : ks.length < 64 := by omega
    simp [l6, nd]
    refine sort_ints nd (below_sorted t q) fun x => ?_
    rw [hS, rng_len]
    exact ⟨fun ⟨j, e, h1, h2⟩ => ⟨j, e, below_mem.mpr ⟨by omega, h2⟩⟩, fun ⟨j, e, h⟩ => ⟨j, e, by have := below_mem.mp h; omega, (below_mem.mp h).2⟩⟩
theorem w_common_post {t : List Nat} (c : Chart t) (l : t.length < 1000) {a b z : Nat} (la : a < t.length + 1) (lb : b < t.length + 1) (hz : (comL t a b).getLast? = some z) : f_common_post [.d (chartD t), .d (.int a), .d (.int b)] = some (.d (.int z), []) := by
  refine ok_fn rfl (ok_seq ?_)
  simp [w_require_chart c l]
  refine ok_seq ?_
  simp [w_require_post la]
  refine ok_seq ?_
  simp [w_require_post lb]
  refine ok_seq (ok_while (m := a + b) (fun n ρ => ∃ a' b' : Nat, n = a' + b' ∧ a' < t.length + 1 ∧ b' < t.length + 1 ∧ comL t a b = comL t a' b' ∧ ρ = [.d (chartD t), .d (.int a'), .d (.int b')]) ⟨a, b, rfl, la, lb, rfl, rfl⟩ (by omega) ?_)
  rintro n ρ ⟨a', b', rfl, la', lb', ec, rfl⟩
  refine ⟨!decide ((a' : Int) = b'), _, by simp; rfl, fun h => ?_, fun h => ?_⟩
  · have e : (a' : Int) = b' := by simpa using h
    have e : a' = b' := by omega
    subst e
    rw [ec, com_self, way_last] at hz
    cases hz
    simp
  · have ne : ¬ (a' : Int) = b' := by simpa using h
    by_cases g : b' < a'
    · obtain ⟨p, hp, lp, ea, _⟩ := chart_look c (z := a') (by omega) la'
      simp [g, ea]
      exact ⟨p + b', by omega, p, b', rfl, by omega, lb', by rw [ec, com_left c g la' hp], by simp⟩
    · obtain ⟨p, hp, lp, ea, _⟩ := chart_look c (z := b') (by omega) lb'
      simp [g, ea]
      exact ⟨a' + p, by omega, a', p, rfl, la', by omega, by rw [ec, com_right c (by omega) lb' hp], by simp⟩

end MU

namespace MU
open PySem PySem.Spec L2
def b_people_of : Sv :=
  (sRet (eCb fSortedU (aCons (eRd (eLc [1] (itSeq (eVar 0)) (gvName 1) (tvB (eOp fNotN (eVar 1) (eC .none))) (eVar 1))) aNil)))
def f_people_of : Fn := fnOf 2 1 b_people_of
def b_next_in_line : Sv :=
  (sSeq (sSet 3 (eLc [4] (itSeq (eOp fIx (eVar 0) (eVar 2))) (gvName 4) (tvB (eOp fNotN (eOp fIx (eVar 1) (eVar 4)) (eC .none))) (eTup (aCons (eDat (eOp fIx (eVar 1) (eVar 4))) (aCons (eDat (eVar 4)) aNil)))))
  (sSeq (sIf (tvB (eOp fEq (eCb fLen (aCons (eRd (eVar 3)) aNil)) (eC (.int 0)))) (sRet (eC .none)) sNext)
  (sRet (eOp fIx (eCb fMinU (aCons (eRd (eVar 3)) aNil)) (eC (.int 1))))))
def f_next_in_line : Fn := fnOf 5 3 b_next_in_line
def b_depart : Sv :=
  (sSeq (sSet 3 (eLst aNil))
  (sSeq (sSet 4 (eIndexO 1 (eVar 2)))
  (sSeq (sSet 5 (eCall f_next_in_line (xR (eVar 0) (xR (eVar 1) (xR (eVar 4) xNil)))))
  (sSeq (whileL (tvB (eOp fNotN (eVar 5) (eC .none))) (sSeq (sAsg (gvSub 1 (eVar 4)) (eOp fIx (eVar 1) (eVar 5)))
  (sSeq (sAppend 3 (eTup (aCons (eDat (eOp fIx (eVar 1) (eVar 5))) (aCons (eDat (eVar 5)) (aCons (eDat (eVar 4)) aNil)))))
  (sSeq (sSet 4 (eVar 5))
  (sSet 5 (eCall f_next_in_line (xR (eVar 0) (xR (eVar 1) (xR (eVar 4) xNil)))))))) 100000)
  (sSeq (sAsg (gvSub 1 (eVar 4)) (eC .none))
  (sRet (eVar 3)))))))
def f_depart : Fn := fnOf 6 3 b_depart
def b_after_departures : Sv :=
  (sSeq (sSet 3 (eCall f_posts_under (xR (eVar 0) xNil)))
  (sSeq (sSet 4 (eCb fList (aCons (eRd (eVar 1)) aNil)))
  (sSeq (sFor (itSeq (eVar 2)) (gvName 5) (sExpr (eCall f_depart (xR (eVar 3) (xM (eVar 4) (xR (eVar 5) xNil))))))
  (sRet (eCb fTuple (aCons (eRd (eVar 4)) aNil))))))
def f_after_departures : Fn := fnOf 6 3 b_after_departures
def b_is_holder : Sv :=
  (sRet (eAnd (eCall f_is_person (xR (eVar 1) xNil)) (eOp (fIn false) (eVar 1) (eVar 0))))
def f_is_holder : Fn := fnOf 2 2 b_is_holder
def b_first_misfit : Sv :=
  (sSeq (sSetN 2)
  (sSeq (sFor (itEnum (eVar 1)) (gvTup 2 (gvsCons (gvName 3) (gvsCons (gvName 4) gvsNil))) (sSeq (sIf (tvOr (tvNot (tvB (eCall f_is_holder (xR (eVar 0) (xR (eVar 4) xNil))))) (tvB (eInN false (eVar 4) 2))) (sRet (eVar 3)) sNext)
  (sAddN 2 (eVar 4))))
  (sRet (eC .none))))
def f_first_misfit : Fn := fnOf 5 2 b_first_misfit
def b_require_leavers : Sv :=
  (sSeq (sSet 2 (eCall f_first_misfit (xR (eVar 0) (xR (eVar 1) xNil))))
  (sIf (tvB (eOp fNotN (eVar 2) (eC .none))) sNever sNext))
def f_require_leavers : Fn := fnOf 3 2 b_require_leavers
def b_require_people : Sv :=
  (sSeq (sIf (tvNot (tvB (eIsi "list" (eVar 1)))) sNever sNext)
  (sSeq (sSet 2 (eCall f_first_misfit (xR (eVar 0) (xR (eVar 1) xNil))))
  (sIf (tvB (eOp fNotN (eVar 2) (eC .none))) sNever sNext)))
def f_require_people : Fn := fnOf 3 2 b_require_people
def b_leave : Sv :=
  (sSeq (sExpr (eCall f_require_arrangement (xR (eVar 0) (xR (eVar 1) xNil))))
  (sSeq (sExpr (eCall f_require_leavers (xR (eVar 1) (xR (eVar 2) xNil))))
  (sSeq (sIf (tvB (eOp fEq (eCb fLen (aCons (eRd (eVar 2)) aNil)) (eC (.int 0)))) (sRet (eVar 1)) sNext)
  (sRet (eCall f_after_departures (xR (eVar 0) (xR (eVar 1) (xR (eVar 2) xNil))))))))
def f_leave : Fn := fnOf 3 3 b_leave
def b_enter : Sv :=
  (sSeq (sSet 4 (eOp fIx (eVar 0) (eVar 3)))
  (sSeq (whileL (tvAnd (tvB (eOp fNotN (eVar 4) (eC .none))) (tvB (eOp (fI fun i j => decide (j < i)) (eOp fIx (eVar 1) (eVar 4)) (eVar 2)))) (sSeq (sAsg (gvSub 1 (eVar 3)) (eOp fIx (eVar 1) (eVar 4)))
  (sSeq (sSet 3 (eVar 4))
  (sSet 4 (eOp fIx (eVar 0) (eVar 3))))) 100000)
  (sAsg (gvSub 1 (eVar 3)) (eVar 2))))
def f_enter : Fn := fnOf 5 4 b_enter
def b_after_joining : Sv :=
  (sSeq (sSet 4 (eCb fList (aCons (eRd (eVar 1)) aNil)))
  (sSeq (sExpr (eCall f_enter (xR (eVar 0) (xM (eVar 4) (xR (eVar 2) (xR (eVar 3) xNil))))))
  (sRet (eCb fTuple (aCons (eRd (eVar 4)) aNil)))))
def f_after_joining : Fn := fnOf 5 4 b_after_joining
def b_join : Sv :=
  (sSeq (sExpr (eCall f_require_arrangement (xR (eVar 0) (xR (eVar 1) xNil))))
  (sSeq (sIf (tvOr (tvNot (tvB (eCall f_is_person (xR (eVar 2) xNil)))) (tvB (eOp (fIn false) (eVar 2) (eVar 1)))) sNever sNext)
  (sSeq (sIf (tvOr (tvNot (tvB (eCall f_is_post (xR (eVar 3) (xR (eCb fLen (aCons (eRd (eVar 0)) aNil)) xNil))))) (tvNot (tvB (eCall f_is_open (xR (eVar 0) (xR (eVar 1) (xR (eVar 3) xNil))))))) sNever sNext)
  (sRet (eCall f_after_joining (xR (eVar 0) (xR (eVar 1) (xR (eVar 2) (xR (eVar 3) xNil)))))))))
def f_join : Fn := fnOf 4 4 b_join
def b_reduced : Sv :=
  (sSeq (sExpr (eCall f_require_arrangement (xR (eVar 0) (xR (eVar 1) xNil))))
  (sSeq (sExpr (eCall f_require_people (xR (eVar 1) (xR (eVar 2) xNil))))
  (sSeq (sSet 3 (eLc [4] (itSeq (eCall f_people_of (xR (eVar 1) xNil))) (gvName 4) (tvB (eOp (fIn true) (eVar 4) (eVar 2))) (eVar 4)))
  (sRet (eCall f_after_departures (xR (eVar 0) (xR (eVar 1) (xR (eVar 3) xNil))))))))
def f_reduced : Fn := fnOf 5 3 b_reduced
theorem w_under {t : List Nat} (c : Chart t) (l : t.length < 1000) : f_posts_under [.d (chartD t)] = some (.d (underD t), []) := by
  show (match natsOf (t.map fun n : Nat => PyData.int n) with
    | some t => if chartB 0 t = true ∧ t.length < 1000 then some (Vl.d (.list ((kidsL t (t.length + 1)).map .list)), []) else none
    | none => none) = _
  rw [natsOf_map]
  dsimp only
  rw [if_pos ⟨chartB_iff.mpr c, l⟩]
  rfl
/-- sorted names -/
def sortN (l : List Nat) : List Nat := l.mergeSort fun a b => decide (a ≤ b)
theorem sort_perm (l : List Nat) : (sortN l).Perm l := List.mergeSort_perm _ _
theorem sort_up (l : List Nat) : (sortN l).Pairwise (· ≤ ·) := by
  refine (List.pairwise_mergeSort (le := fun a b => decide (a ≤ b)) (fun a b c h1 h2 => ?_) (fun a b => ?_) l).imp fun h => of_decide_eq_true h
  · exact decide_eq_true (Nat.le_trans (of_decide_eq_true h1) (of_decide_eq_true h2))
  · rcases Nat.le_total a b with h | h
    · simp [h]
    · simp [h]
theorem sortN_mem {l : List Nat} {n : Nat} : n ∈ sortN l ↔ n ∈ l := (sort_perm l).mem_iff
theorem sortN_len (l : List Nat) : (sortN l).length = l.length := (sort_perm l).length_eq
def heldL (r : List (Option Nat)) : List Nat := r.filterMap id
theorem heldL_mem {r : List (Option Nat)} {n : Nat} : n ∈ heldL r ↔ some n ∈ r := by
  unfold heldL
  rw [List.mem_filterMap]
  exact ⟨fun ⟨c, h, e⟩ => by cases e; exact h, fun h => ⟨_, h, rfl⟩⟩
theorem sortN_is (l : List Nat) : (sortI (l.map fun n : Nat => (n : Int))).map PyData.int = intsD (sortN l) := by
  rw [intsD_eq, ← sortI_uniq ((sort_perm l).map fun n : Nat => (n : Int)) (List.pairwise_map.mpr ((sort_up l).imp fun {a b} h => by omega))]
def pickD : PD → Option PD := fun d => if isNon d then none else some d
theorem held_row (r : List (Option Nat)) : (rowL r).filterMap pickD = intsD (heldL r) := by
  induction r with
  | nil => rfl
  | cons c r ih =>
    cases c with
    | none => exact ih
    | some n => exact congrArg (PyData.int n :: ·) ih
@[simp] theorem intsOf_ints (l : List Nat) : intsOf (intsD l) = some (l.map fun n : Nat => (n : Int)) := by rw [intsD_eq]; exact intsOf_map _
@[simp] theorem sortU_ints (l : List Nat) : fSortedU [.list (intsD l)] = some (.new (intsD (sortN l))) := by
  unfold fSortedU
  dsimp only
  rw [intsOf_ints]
  dsimp only
  rw [sortN_is]
def Sq (xd : PD) (ds : List PD) : Prop := xd = .list ds ∨ xd = .tuple ds
theorem sq_l {ds : List PD} : Sq (.list ds) ds := .inl rfl
theorem sq_t {ds : List PD} : Sq (.tuple ds) ds := .inr rfl
theorem sq_row {r : List (Option Nat)} : Sq (rowD r) (rowL r) := .inr rfl
theorem Sq.ix {xd : PD} {ds : List PD} (h : Sq xd ds) (i : Int) : fIx xd (.int i) = (atI ds i).map .d := by rcases h with rfl | rfl <;> rfl
theorem Sq.seq {xd : PD} {ds : List PD} (h : Sq xd ds) : seqOf xd = some ds := by rcases h with rfl | rfl <;> rfl
theorem it_sq {i : Nat} {ρ : Sts} {xd : PD} {ds : List PD} (h : Sq xd ds) (e : ρ[i]? = some (.d xd)) : itSeq (eVar i) ρ = some (ds, ρ) := by
  rcases h with rfl | rfl <;> simp [e]
theorem it_en {i : Nat} {ρ : Sts} {xd : PD} {ds : List PD} (h : Sq xd ds) (e : ρ[i]? = some (.d xd)) : itEnum (eVar i) ρ = some (enumD ds, ρ) := by
  rcases h with rfl | rfl <;> simp [e]
theorem w_people {r : List (Option Nat)} (l : r.length ≤ 1000) {xd : PD} (h : Sq xd (rowL r)) : f_people_of [.d xd] = some (.new (intsD (sortN (heldL r))), []) := by
  refine ok_fn rfl ?_
  have e := lc_eq (vs := [1]) (gv := gvName 1) (tv := tvB (eOp fNotN (eVar 1) (eC .none))) (e := eVar 1) (ρ := [.d xd, .emp]) (ρ1 := [.d xd, .emp]) (ds := rowL r) pickD (it_sq (i := 0) h (by simp)) (by rw [row_len]; omega) (fun k x hk => by
    obtain ⟨c, hc, rfl⟩ := row_of hk
    cases c <;> simp [cellD, pickD])
  rw [held_row] at e
  simp [b_people_of, e, -eLc_eq, -itSeq_eq]
def nextF (r : List (Option Nat)) : PD → Option PD := fun d => match d with
  | .int k => (match r[k.toNat]? with
    | some (some n) => some (prI ((n : Int), k))
    | _ => none)
  | _ => none
theorem ints_pr (z : Int × Int) (l : List (Int × Int)) : intsOf ((z :: l).map prI) = none := rfl
theorem minU_pr (z : Int × Int) (l : List (Int × Int)) : fMinU [.list ((z :: l).map prI)] = some (.d (prI (minP z l))) := by
  unfold fMinU
  dsimp only
  rw [ints_pr, pairsOf_map]
theorem under_ix {t : List Nat} {q : Nat} (lq : q < t.length + 1) : fIx (underD t) (.int q) = some (.d (.list (intsD (kids t (t.length + 1) q)))) := by
  show (atI ((kidsL t (t.length + 1)).map PyData.list) q).map _ = _
  rw [at_nat (d := .list (intsD (kids t (t.length + 1) q))) (by rw [List.getElem?_map, kidsL_at lq]; rfl)]
  rfl
theorem heldP_len (t : List Nat) (r : List (Option Nat)) (q : Nat) : (heldP t r q).length ≤ t.length + 1 := Nat.le_trans (List.length_filterMap_le ..) (kids_len ..)
theorem w_next {t : List Nat} {r : List (Option Nat)} {q : Nat} (l : t.length < 1000) (lr : r.length = t.length + 1) (lq : q < t.length + 1) {xd : PD} (h : Sq xd (rowL r)) : f_next_in_line [.d (underD t), .d xd, .d (.int q)] = some (.d (nextD t r q), []) := by
  refine ok_fn rfl (ok_seq ?_)
  have kl := kids_len t (t.length + 1) q
  have hu := under_ix lq
  have e := lc_eq (vs := [4]) (it := itSeq (eOp fIx (eVar 0) (eVar 2))) (gv := gvName 4) (tv := tvB (eOp fNotN (eOp fIx (eVar 1) (eVar 4)) (eC .none))) (e := eTup (aCons (eDat (eOp fIx (eVar 1) (eVar 4))) (aCons (eDat (eVar 4)) aNil))) (ρ := [.d (underD t), .d xd, .d (.int q), .emp, .emp]) (ρ1 := [.d (underD t), .d xd, .d (.int q), .emp, .emp]) (ds := intsD (kids t (t.length + 1) q)) (nextF r) (by simp [hu]) (by rw [ints_len]; omega) (fun k x hk => by
    obtain ⟨j, hj, rfl⟩ := ints_at hk
    have lj : j < t.length + 1 := List.mem_range.mp (List.mem_filter.mp (List.mem_of_getElem? hj)).1
    obtain ⟨cc, hc⟩ := row_has (r := r) (k := j) (by omega)
    have h1 := at_nat (row_at hc)
    cases cc <;> simp [h.ix, h1, cellD, nextF, hc, prI])
  have e2 : (intsD (kids t (t.length + 1) q)).filterMap (nextF r) = (heldP t r q).map prI := heldP_D t r q
  rw [e2] at e
  simp [e, -eLc_eq, -itSeq_eq]
  refine ok_seq ?_
  cases eh : heldP t r q with
  | nil =>
    simp [nextD, eh]
  | cons z ls =>
    have em := minU_pr z ls
    rw [List.map_cons] at em
    have z1 : ¬ ((ls.length : Int) + 1 = 0) := by omega
    simp [nextD, eh, em]
    simp [prI, atI, ixN]
theorem next_flat (t : List Nat) (r : List (Option Nat)) (q : Nat) : flatD (nextD t r q) = true := by
  unfold nextD
  split <;> rfl
theorem row_set (r : List (Option Nat)) (k n : Nat) : rowL (r.set k (some n)) = (rowL r).set k (.int (n : Int)) := row_put r k (some n)
@[simp] theorem cell_s (n : Nat) : cellD (some n) = .int n := rfl
@[simp] theorem cell_0 : cellD none = .none := rfl
theorem w_depart {t : List Nat} {r : List (Option Nat)} (c : Chart t) (l : t.length < 1000) (lr : r.length = t.length + 1) {j n : Nat} (hj : r[j]? = some (some n)) (fj : ∀ m, m < j → r[m]? ≠ some (some n)) : f_depart [.d (underD t), .m (rowL r), .d (.int n)] = some (.new (movesD t r j), [rowL (leftL t r j)]) := by
  have lj : j < t.length + 1 := by rw [← lr]; exact (List.getElem?_eq_some_iff.mp hj).1
  refine ok_fn rfl (ok_seq ?_)
  simp
  refine ok_seq ?_
  simp [row_idx hj fj, cell_flat]
  refine ok_seq ?_
  simp [w_next l lr lj sq_l, next_flat]
  refine ok_seq (ok_while (m := t.length) (fun f ρ => ∃ r' q ms, t.length ≤ q + f ∧ q < t.length + 1 ∧ r'.length = t.length + 1 ∧ ms.length + f ≤ t.length ∧ (depF t f r' q).1 = leftL t r j ∧ ms ++ (depF t f r' q).2 = movesD t r j ∧ ρ = [.d (underD t), .own false (rowL r'), .d (.int n), .own true ms, .d (.int (q : Nat)), .d (nextD t r' q)])
      ⟨r, j, [], by omega, lj, lr, by simp, rfl, rfl, rfl⟩ (by omega) ?_)
  rintro f ρ ⟨r', q, ms, hf, lq, lr', lm, e1, e2, rfl⟩
  have lq' : q < r'.length := by omega
  cases cn : nxt t r' q with
  | none =>
    have e0 : depF t f r' q = (r'.set q none, []) := by
      cases f with
      | zero => rfl
      | succ f => unfold depF; rw [cn]
    rw [e0] at e1 e2
    rw [List.append_nil] at e2
    refine ⟨false, _, by simp [nxt_none cn]; rfl, fun _ => ?_, fun z => (by cases z)⟩
    dsimp only at e1
    refine ok_seq ?_
    simp [ixN_nat lq', e2, ← e1, row_put]
  | some k =>
    obtain ⟨qk, lk, tk, ⟨m, hm⟩, en⟩ := nxt_some c cn
    obtain ⟨f, rfl⟩ : ∃ f', f = f' + 1 := ⟨f - 1, by omega⟩
    have ej : r'[k]?.join = some m := by rw [hm]; rfl
    have e0 : depF t (f + 1) r' q = ((depF t f (r'.set q (some m)) k).1, .tuple [.int (m : Nat), .int (k : Nat), .int (q : Nat)] :: (depF t f (r'.set q (some m)) k).2) := by
      show (match nxt t r' q with | none => _ | some k => _) = _
      rw [cn]
      dsimp only
      rw [ej]
      rfl
    rw [e0] at e1 e2
    have hm2 : (r'.set q (some m))[k]? = some (some m) := by rw [List.getElem?_set_ne (by omega)]; exact hm
    have h1 := at_nat (row_at hm)
    have h2 := at_nat (row_at hm2)
    have lr2 : (r'.set q (some m)).length = t.length + 1 := by rw [List.length_set]; exact lr'
    have lm5 : ms.length < 100000 := by omega
    refine ⟨true, _, by simp [en]; rfl, fun z => (by cases z), fun _ => ?_⟩
    refine ok_run (fl := .next) (ρ' := [.d (underD t), .own false (rowL (r'.set q (some m))), .d (.int n), .own true (ms ++ [.tuple [.int m, .int k, .int q]]), .d (.int k), .d (nextD t (r'.set q (some m)) k)]) (by
        simp only [cell_s] at h1 h2
        simp [sSeq_eq, h1, ixN_nat lq', ← row_set, h2, lm5, w_next l lr2 lk sq_l, next_flat, -List.map_set]) ⟨f, Nat.lt_succ_self _, r'.set q (some m), k, ms ++ [.tuple [.int (m : Nat), .int (k : Nat), .int (q : Nat)]], by omega, lk, lr2, by rw [List.length_append, List.length_singleton]; omega, e1, by rw [List.append_assoc]; exact e2, rfl⟩

end MU

namespace MU
open PySem PySem.Spec L2
theorem w_after {t : List Nat} {r : List (Option Nat)} (c : Chart t) (l : t.length < 1000) (lr : r.length = t.length + 1) {ls : List Nat} (lv : Leave1 t ls r) {rd xd : PD} (hr : Sq rd (rowL r)) (h : Sq xd (intsD ls)) : f_after_departures [.d (chartD t), .d rd, .d xd] = some (.d (rowD (allLeft t r ls)), []) := by
  have hl : fList [rd] = some (.new (rowL r)) := by rcases hr with rfl | rfl <;> rfl
  refine ok_fn rfl (ok_seq ?_)
  simp [w_under c l]
  refine ok_seq ?_
  simp [hl]
  refine ok_seq (ok_for (it_sq (i := 2) h rfl) (fun i ρ => ∃ r' z, r'.length = t.length + 1 ∧ Leave1 t (ls.drop i) r' ∧ allLeft t r' (ls.drop i) = allLeft t r ls ∧ ρ = [.d (chartD t), .d rd, .d xd, .d (underD t), .own true (rowL r'), z]) ⟨r, _, lr, lv, rfl, rfl⟩ ?_ ?_)
  · rintro i x ρ hi ⟨r', z, lr', lv', e, rfl⟩
    obtain ⟨n, hn, rfl⟩ := ints_at hi
    have ed : ls.drop i = n :: ls.drop (i + 1) := by
      obtain ⟨li, e⟩ := List.getElem?_eq_some_iff.mp hn
      rw [List.drop_eq_getElem_cons li, e]
    rw [ed] at lv' e
    obtain ⟨hm, lv'⟩ := lv'
    obtain ⟨j, hj, fj⟩ := idx_at hm
    have ej := idx_eq hj fj
    rw [ej] at lv'
    refine ⟨_, rfl, ok_run (fl := .next) (ρ' := [.d (chartD t), .d rd, .d xd, .d (underD t), .own true (rowL (leftL t r' j)), .d (.int n)]) (by simp [w_depart c l lr' hj fj]) ⟨leftL t r' j, _, by rw [left_len]; exact lr', lv', ?_, rfl⟩⟩
    rw [← e]
    show _ = allLeft t (leftL t r' (idxOf r' n)) _
    rw [ej]
  · rintro ρ ⟨r', z, lr', lv', e, rfl⟩
    rw [ints_len, List.drop_length] at e
    simp [← e, rowD, allLeft]
theorem w_holder (r : List (Option Nat)) (n : Nat) : f_is_holder [.d (rowD r), .d (.int n)] = some (.d (.bool (decide (some n ∈ r))), []) := by
  refine ok_fn rfl ?_
  simp [b_is_holder]
theorem w_misfit {r : List (Option Nat)} {ls : List Nat} (ll : ls.length ≤ 2000) (hm : ∀ n ∈ ls, some n ∈ r) (nd : ls.Nodup) {xd : PD} (h : Sq xd (intsD ls)) : f_first_misfit [.d (rowD r), .d xd] = some (.d .none, []) := by
  refine ok_fn rfl (ok_seq ?_)
  simp
  refine ok_seq (ok_for (it_en (i := 1) h rfl) (fun k ρ => ∃ x y ks, ρ = [.d (rowD r), .d xd, .nset ks, x, y] ∧ ks.length ≤ k ∧ ∀ n : Nat, some (.inl (n : Int)) ∈ ks → ∃ m, m < k ∧ ls[m]? = some n) ⟨_, _, [], rfl, Nat.le_refl _, by simp⟩ ?_ ?_)
  · rintro k x ρ hk ⟨x1, x2, ks, rfl, kl, km⟩
    obtain ⟨d, hd, rfl⟩ := enum_at hk
    obtain ⟨n, hn, rfl⟩ := ints_at hd
    have lk : k < ls.length := (List.getElem?_eq_some_iff.mp hn).1
    have l4 : ks.length < 4000 := by omega
    have nk : ¬ some (Sum.inl (n : Int)) ∈ ks := fun h => by
      obtain ⟨m, lm, em⟩ := km n h
      obtain ⟨l1, e1⟩ := List.getElem?_eq_some_iff.mp em
      obtain ⟨l2, e2⟩ := List.getElem?_eq_some_iff.mp hn
      have := (List.getElem_inj nd).mp (e1.trans e2.symm)
      omega
    refine ⟨[.d (rowD r), .d xd, .nset ks, .d (.int k), .d (.int n)], by simp, ?_⟩
    refine ok_run (fl := .next) (ρ' := [.d (rowD r), .d xd, .nset (addN ks (some (.inl (n : Int)))), .d (.int k), .d (.int n)]) (by
      simp [sSeq_eq, w_holder, hm n (List.mem_of_getElem? hn), keys_no nk, l4]) ⟨_, _, _, rfl, keys_lt kl, fun n' h => ?_⟩
    rcases keys_mem.mp h with h | h
    · obtain ⟨m, lm, em⟩ := km n' h
      exact ⟨m, by omega, em⟩
    · have e2 : n' = n := by
        have := Option.some.inj h
        have := Sum.inl.inj this
        omega
      subst e2
      exact ⟨k, by omega, hn⟩
  · rintro ρ ⟨x1, x2, ks, rfl, kl, km⟩
    simp
theorem w_leavers {r : List (Option Nat)} {ls : List Nat} (ll : ls.length ≤ 2000) (hm : ∀ n ∈ ls, some n ∈ r) (nd : ls.Nodup) {xd : PD} (h : Sq xd (intsD ls)) : f_require_leavers [.d (rowD r), .d xd] = some (.d .none, []) := by
  refine ok_fn rfl ?_
  simp [b_require_leavers, sSeq_eq, w_misfit ll hm nd h]
theorem w_req_people {r : List (Option Nat)} {ls : List Nat} (ll : ls.length ≤ 2000) (hm : ∀ n ∈ ls, some n ∈ r) (nd : ls.Nodup) : f_require_people [.d (rowD r), .d (.list (intsD ls))] = some (.d .none, []) := by
  refine ok_fn rfl ?_
  simp [b_require_people, sSeq_eq, w_misfit ll hm nd sq_l]
theorem w_leave {t : List Nat} {r : List (Option Nat)} (c : Chart t) (l : t.length < 1000) (a : Arr t r) {ls : List Nat} (ll : ls.length ≤ 2000) (hm : ∀ n ∈ ls, some n ∈ r) (nd : ls.Nodup) : f_leave [.d (chartD t), .d (rowD r), .d (.tuple (intsD ls))] = some (.d (rowD (allLeft t r ls)), []) := by
  have lv := (leave1_of c ls r a hm nd).1
  refine ok_fn rfl ?_
  by_cases e : ls = []
  · subst e
    simp [b_leave, sSeq_eq, w_require_arr c l a, w_leavers (r := r) (ls := []) (xd := .tuple []) (by simp) (by simp) (by simp) sq_t, allLeft]
  · simp [b_leave, sSeq_eq, w_require_arr c l a, w_leavers ll hm nd sq_t, e, w_after (rd := rowD r) c l a.len lv sq_row sq_t]
@[simp] theorem row_nf (r : List (Option Nat)) : flatD (rowD r) = false := rfl

def restL (r : List (Option Nat)) (ls : List Nat) : List Nat := (sortN (heldL r)).filter fun n => !decide (n ∈ ls)
theorem held_nodup {t : List Nat} {r : List (Option Nat)} (a : Arr t r) : (heldL r).Nodup := by
  have inj := a.inj
  clear a
  induction r with
  | nil => exact List.nodup_nil
  | cons c r ih =>
    have ih' := ih fun i j n h1 h2 => by
      have := inj (i + 1) (j + 1) n (by simpa using h1) (by simpa using h2)
      omega
    cases c with
    | none => exact ih'
    | some n =>
      refine List.nodup_cons.mpr ⟨fun h => ?_, ih'⟩
      obtain ⟨i, hi⟩ := List.mem_iff_getElem?.mp (heldL_mem.mp h)
      have := inj 0 (i + 1) n rfl (by simpa using hi)
      omega
theorem sortN_nodup {l : List Nat} (h : l.Nodup) : (sortN l).Nodup := (sort_perm l).nodup_iff.mpr h
theorem rest_nodup {t : List Nat} {r : List (Option Nat)} (a : Arr t r) (ls : List Nat) : (restL r ls).Nodup := (sortN_nodup (held_nodup a)).sublist List.filter_sublist
theorem rest_mem {r : List (Option Nat)} {ls : List Nat} {n : Nat} : n ∈ restL r ls ↔ some n ∈ r ∧ n ∉ ls := by
  unfold restL
  rw [List.mem_filter, sortN_mem, heldL_mem]
  simp
theorem sel_filter (ns : List Nat) (p : Nat → Bool) : (intsD ns).filterMap (selD p) = intsD (ns.filter p) := filt_ints ns p _ (sel_at p)
@[simp] theorem in_ints (l : List Nat) (n : Nat) (neg : Bool) : fIn neg (.int n) (.list (intsD l)) = some (.d (.bool (if neg then !decide (n ∈ l) else decide (n ∈ l)))) := by
  rw [fIn_l, any_ints, flat_ints]
  rfl
theorem heldL_len (r : List (Option Nat)) : (heldL r).length ≤ r.length := List.length_filterMap_le ..
theorem w_reduced {t : List Nat} {r : List (Option Nat)} (c : Chart t) (l : t.length < 1000) (a : Arr t r) {ls : List Nat} (ll : ls.length ≤ 2000) (hm : ∀ n ∈ ls, some n ∈ r) (nd : ls.Nodup) : f_reduced [.d (chartD t), .d (rowD r), .d (.list (intsD ls))] = some (.d (rowD (allLeft t r (restL r ls))), []) := by
  have lv := (leave1_of c (restL r ls) r a (fun n h => (rest_mem.mp h).1) (rest_nodup a ls)).1
  have hl := heldL_len r
  have ar := a.len
  have e := lc_eq (vs := [4]) (it := itSeq (eCall f_people_of (xR (eVar 1) xNil))) (gv := gvName 4) (tv := tvB (eOp (fIn true) (eVar 4) (eVar 2))) (e := eVar 4) (ρ := [.d (chartD t), .d (rowD r), .d (.list (intsD ls)), .emp, .emp]) (ρ1 := [.d (chartD t), .d (rowD r), .d (.list (intsD ls)), .emp, .emp]) (ds := intsD (sortN (heldL r))) (selD fun n => !decide (n ∈ ls)) (by simp [w_people (r := r) (xd := rowD r) (by omega) sq_row]) (by rw [ints_len, sortN_len]; omega) (fun k x hk => by
    obtain ⟨j, hj, rfl⟩ := ints_at hk
    rw [sel_at]
    by_cases h : j ∈ ls <;> simp [h])
  rw [sel_filter] at e
  change eLc _ _ _ _ _ _ = some (.new (intsD (restL r ls)), _) at e
  refine ok_fn rfl ?_
  simp [b_reduced, sSeq_eq, w_require_arr c l a, w_req_people ll hm nd, e, -eLc_eq, w_after (rd := rowD r) c l a.len lv sq_row sq_l]

end MU

namespace MU
open PySem PySem.Spec L2
def b_l_cell : Sv :=
  (sSeq (sIf (tvB (eOp (fI fun i j => decide (i < j)) (eVar 1) (eCb fLen (aCons (eRd (eVar 0)) aNil)))) (sRet (eOp fIx (eVar 0) (eVar 1))) sNext)
  (sRet (eC (.int 0))))
def f_l_cell : Fn := fnOf 2 2 b_l_cell
def b_l_hash : Sv :=
  (sSeq (sSet 2 (eOp fMod (eCb fInt (aCons (eRd (eOp fAdd (eOp fAdd (eOp fAdd (eMul (eVar 0) (eC (.int 1103515245))) (eMul (eMul (eC (.int 7919)) (eVar 1)) (eVar 1))) (eVar 1)) (eC (.int 1)))) aNil)) (eC (.int 2147483647))))
  (sSeq (sSet 2 (eOp fMod (eCb fInt (aCons (eRd (eOp fAdd (eMul (eVar 2) (eVar 2)) (eC (.int 69621)))) aNil)) (eC (.int 2147483629))))
  (sRet (eOp fMod (eCb fInt (aCons (eRd (eMul (eVar 2) (eC (.int 48271)))) aNil)) (eC (.int 2147483587))))))
def f_l_hash : Fn := fnOf 3 2 b_l_hash
def b_l_generator : Sv :=
  (sSeq (sSet 2 (eCall f_l_cell (xR (eVar 0) (xR (eVar 1) xNil))))
  (sRet (eLst (aCons (eDat (eOp fMod (eCb fInt (aCons (eRd (eCb fMax2 (aCons (eRd (eOp fSub (eVar 2) (eOp fPow (eC (.int 10)) (eC (.int 18))))) (aCons (eRd (eC (.int 0))) aNil)))) aNil)) (eOp fPow (eOp fPow (eC (.int 10)) (eC (.int 60))) (eC (.int 10))))) (aCons (eDat (eOp fMod (eCb fInt (aCons (eRd (eVar 2)) aNil)) (eC (.int 2147483647)))) (aCons (eDat (eMul (eC (.int 1000)) (eVar 1))) aNil))))))
def f_l_generator : Fn := fnOf 3 2 b_l_generator
def b_l_random : Sv :=
  (sSeq (sIf (tvB (eOp (fI fun i j => decide (j < i)) (eOp fIx (eVar 0) (eC (.int 0))) (eC (.int 0)))) (sSeq (sSet 2 (eOp fMod (eCb fInt (aCons (eRd (eOp fIx (eVar 0) (eC (.int 0)))) aNil)) (eVar 1)))
  (sSeq (sAsg (gvSub 0 (eC (.int 0))) (eOp fDiv (eOp fIx (eVar 0) (eC (.int 0))) (eVar 1)))
  (sRet (eVar 2)))) sNext)
  (sSeq (sSet 2 (eC (.int 0)))
  (sSeq (sFor (itRng1 (eOp fAdd (eC (.int 1)) (eOp fDiv (eBits (eVar 1)) (eC (.int 30))))) (gvName 3) (sSeq (sAsg (gvSub 0 (eC (.int 2))) (eOp fAdd (eOp fIx (eVar 0) (eC (.int 2))) (eC (.int 1))))
  (sSet 2 (eOp fAdd (eMul (eVar 2) (eC (.int 2147483587))) (eCall f_l_hash (xR (eOp fIx (eVar 0) (eC (.int 1))) (xR (eOp fIx (eVar 0) (eC (.int 2))) xNil)))))))
  (sRet (eOp fMod (eCb fInt (aCons (eRd (eVar 2)) aNil)) (eVar 1))))))
def f_l_random : Fn := fnOf 4 2 b_l_random
def b_l_random_chart : Sv :=
  (sSeq (sSet 2 (eOp fAdd (eC (.int 1)) (eCall f_l_random (xM (eVar 0) (xR (eVar 1) xNil)))))
  (sSeq (sSet 3 (eCall f_l_random (xM (eVar 0) (xR (eC (.int 5)) xNil))))
  (sSeq (sSet 4 (eLst (aCons (eDat (eC .none)) aNil)))
  (sSeq (sFor (itRng2 (eC (.int 1)) (eVar 2)) (gvName 5) (sSeq (sSet 6 (eLst (aCons (eDat (eOp fSub (eVar 5) (eC (.int 1)))) (aCons (eDat (eC (.int 0))) (aCons (eDat (eCall f_l_random (xM (eVar 0) (xR (eVar 5) xNil)))) (aCons (eDat (eCb fMax2 (aCons (eRd (eC (.int 0))) (aCons (eRd (eOp fSub (eOp fSub (eVar 5) (eC (.int 1))) (eCall f_l_random (xM (eVar 0) (xR (eC (.int 3)) xNil))))) aNil)))) (aCons (eDat (eOp fDiv (eVar 5) (eC (.int 2)))) aNil)))))))
  (sAppend 4 (eCb fMin2 (aCons (eRd (eOp fSub (eVar 5) (eC (.int 1)))) (aCons (eRd (eOp fIx (eVar 6) (eVar 3))) aNil))))))
  (sRet (eCb fTuple (aCons (eRd (eVar 4)) aNil)))))))
def f_l_random_chart : Fn := fnOf 7 2 b_l_random_chart
@[simp] theorem at_z {x : PD} {xs : List PD} : atI (x :: xs) 0 = some x := at_nat (j := 0) rfl
@[simp] theorem at_o {x y : PD} {xs : List PD} : atI (x :: y :: xs) 1 = some y := at_nat (j := 1) rfl
@[simp] theorem at_t {x y z : PD} {xs : List PD} : atI (x :: y :: z :: xs) 2 = some z := at_nat (j := 2) rfl
@[simp] theorem ix_30 : ixN 3 0 = some 0 := by decide
@[simp] theorem ix_32 : ixN 3 2 = some 2 := by decide
theorem nat_lt {i : Int} {n : Nat} (h0 : 0 ≤ i) (h : i < (2 : Int) ^ n) : i.natAbs < 2 ^ n := by
  have : (i.natAbs : Int) = i := Int.natAbs_of_nonneg h0
  have q : ((i.natAbs : Nat) : Int) < ((2 ^ n : Nat) : Int) := by rw [this]; simpa using h
  exact Int.ofNat_lt.mp q
set_option exponentiation.threshold 5000 in
theorem bits_ok {i : Int} (n : Nat) (h0 : 0 ≤ i) (h : i < (2 : Int) ^ n) (l : n ≤ 4000) : bits4 i = true := decide_eq_true (Nat.lt_of_lt_of_le (nat_lt h0 h) (Nat.pow_le_pow_right (by decide) l))
theorem bits_92 {i : Int} (h0 : 0 ≤ i) (h : i < 4951760157141521099596496896) : bits4 i = true := bits_ok 92 h0 (Int.lt_of_lt_of_le h (by decide)) (by decide)
@[simp] theorem bl_1103515245 : bits4 1103515245 = true := bits_ok 60 (by decide) (by decide) (by decide)
@[simp] theorem bl_7919 : bits4 7919 = true := bits_ok 60 (by decide) (by decide) (by decide)
@[simp] theorem bl_48271 : bits4 48271 = true := bits_ok 60 (by decide) (by decide) (by decide)
@[simp] theorem bl_2147483587 : bits4 2147483587 = true := bits_ok 60 (by decide) (by decide) (by decide)
@[simp] theorem bl_1000 : bits4 1000 = true := bits_ok 60 (by decide) (by decide) (by decide)
@[simp] theorem bl_9 : bits4 9 = true := bits_ok 60 (by decide) (by decide) (by decide)
@[simp] theorem bl_2 : bits4 2 = true := bits_ok 60 (by decide) (by decide) (by decide)
@[simp] theorem bl_30 : bits4 30 = true := bits_ok 60 (by decide) (by decide) (by decide)
@[simp] theorem bl_5 : bits4 5 = true := bits_ok 60 (by decide) (by decide) (by decide)
@[simp] theorem bl_3 : bits4 3 = true := bits_ok 60 (by decide) (by decide) (by decide)
@[simp] theorem bl_10 : bits4 10 = true := bits_ok 60 (by decide) (by decide) (by decide)
theorem w_cell {ns : List Int} {i : Nat} : f_l_cell [.d (.list (ns.map .int)), .d (.int i)] = some (.d (.int (ns.getD i 0)), []) := by
  refine ok_fn rfl ?_
  by_cases h : i < ns.length
  · have ha : atI (ns.map PyData.int) (i : Int) = some (.int ns[i]) := at_nat (by rw [List.getElem?_map, List.getElem?_eq_getElem h]; rfl)
    simp [b_l_cell, sSeq_eq, h, ha, List.getD_eq_getElem?_getD, List.getElem?_eq_getElem h]
  · simp [b_l_cell, sSeq_eq, h, List.getD_eq_getElem?_getD, List.getElem?_eq_none (show ns.length ≤ i by omega)]
theorem bits_c {n : Int} (h0 : 0 ≤ n) (h : n < 2 ^ 60) : bits4 n = true := bits_ok 60 h0 h (by decide)
theorem w_hash {s i : Int} (h1 : 0 ≤ s) (h2 : s < 2147483647) (h3 : 0 ≤ i) (h4 : i < 2000000000000) : f_l_hash [.d (.int s), .d (.int i)] = some (.d (.int (hashF s i)), []) := by
  have m1 : 0 ≤ hash1 s i ∧ hash1 s i < 2147483647 := ⟨Int.emod_nonneg _ (by decide), Int.emod_lt_of_pos _ (by decide)⟩
  have m2 : 0 ≤ hash2 (hash1 s i) ∧ hash2 (hash1 s i) < 2147483629 := ⟨Int.emod_nonneg _ (by decide), Int.emod_lt_of_pos _ (by decide)⟩
  have c1 : bits4 s = true := bits_c h1 (by omega)
  have c2 : bits4 i = true := bits_c h3 (by omega)
  have c3 : bits4 (7919 * i) = true := bits_c (by omega) (by omega)
  have c4 : bits4 (hash1 s i) = true := bits_c m1.1 (by omega)
  have c5 : bits4 (hash2 (hash1 s i)) = true := bits_c m2.1 (by omega)
  have e1 : (s * 1103515245 + 7919 * i * i + i + 1) % 2147483647 = hash1 s i := rfl
  have e2 : ∀ m : Int, (m * m + 69621) % 2147483629 = hash2 m := fun _ => rfl
  have e3 : hash2 (hash1 s i) * 48271 % 2147483587 = hashF s i := rfl
  refine ok_fn rfl ?_
  simp [b_l_hash, sSeq_eq, c1, c2, c3, e1, c4, e2, c5, e3]
/-- a generator that has made at most n hashes -/
def G (n : Nat) (g : List PD) : Prop := ∃ a s c : Int, g = [.int a, .int s, .int c] ∧ 0 ≤ a ∧ 0 ≤ s ∧ s < 2147483647 ∧ 0 ≤ c ∧ c ≤ n
theorem G.mono {n m : Nat} {g : List PD} (h : G n g) (l : n ≤ m) : G m g := by
  obtain ⟨a, s, c, e, h1, h2, h3, h4, h5⟩ := h
  exact ⟨a, s, c, e, h1, h2, h3, h4, by omega⟩
theorem ten600 : ((10 : Int) ^ (60 : Nat)) ^ (10 : Nat) = 10 ^ 600 := Int.pow_mul.symm
theorem pos600 : (0 : Int) < 10 ^ 600 := Int.pow_pos (by decide)
theorem pow_18 : fPow (.int 10) (.int 18) = some (.d (.int 1000000000000000000)) := by
  rw [fPow_ii, if_pos ⟨by decide, by decide +kernel⟩, show Int.toNat 18 = 18 by decide]
  rfl
theorem w_generator {ns : List Int} {i : Nat} (hi : i ≤ 1000) : ∃ g, f_l_generator [.d (.list (ns.map .int)), .d (.int i)] = some (.new g, []) ∧ G (1000 * i) g := by
  have p1 : fPow (.int 10) (.int 18) = some (.d (.int (10 ^ 18))) := by
    rw [fPow_ii, if_pos ⟨by decide, by decide +kernel⟩, show Int.toNat 18 = 18 by decide]
  have p2 : fPow (.int 10) (.int 60) = some (.d (.int (10 ^ 60))) := by
    rw [fPow_ii, if_pos ⟨by decide, by decide +kernel⟩, show Int.toNat 60 = 60 by decide]
  have p3 : fPow (.int (10 ^ 60)) (.int 10) = some (.d (.int (10 ^ 600))) := by
    rw [fPow_ii, if_pos ⟨by decide, by decide +kernel⟩, show Int.toNat 10 = 10 by decide, ten600]
  have p4 := pos600
  have c1 : bits4 (i : Int) = true := bits_c (by omega) (by omega)
  generalize hp : (10 : Int) ^ 600 = P at p3 p4
  generalize hq : (10 : Int) ^ 60 = Q at p2 p3
  generalize hr : (10 : Int) ^ 18 = R at p1
  refine ⟨_, ok_fn rfl ?_, max (ns.getD i 0 - R) 0 % P, ns.getD i 0 % 2147483647, 1000 * i, rfl, Int.emod_nonneg _ (by omega), Int.emod_nonneg _ (by decide), Int.emod_lt_of_pos _ (by decide), by omega, by omega⟩
  simp [b_l_generator, sSeq_eq, w_cell, p1, p2, p3, p4, c1]
theorem bits_le {b : Int} (h1 : 1 ≤ b) (h2 : b < 2 ^ 60) : Builtin.Int.intBits b ≤ 60 := by
  have q := PySem.Flt.log2_lt_of (k := 60) (by decide) (nat_lt (n := 60) (by omega) h2)
  unfold Builtin.Int.intBits
  split <;> omega
theorem w_random {n : Nat} {g : List PD} (hg : G n g) (hn : n ≤ 1000000000000) {b : Int} (h1 : 1 ≤ b) (h2 : b < 2 ^ 60) : ∃ (r : Nat) (g' : List PD), f_l_random [.m g, .d (.int b)] = some (.d (.int r), [g']) ∧ (r : Int) < b ∧ G (n + 3) g' := by
  obtain ⟨a, s, c, rfl, ha, hs, hs', hc, hc'⟩ := hg
  have hb := bits_le h1 h2
  have b4 : bits4 b = true := bits_c (by omega) h2
  by_cases g0 : 0 < a
  · refine ⟨(a % b).toNat, [.int (a / b), .int s, .int c], ok_fn rfl ?_, ?_, a / b, s, c, rfl, Int.ediv_nonneg ha (by omega), hs, hs', hc, by omega⟩
    · have e : max (a % b) 0 = a % b := Int.max_eq_left (Int.emod_nonneg _ (by omega))
      simp [b_l_random, sSeq_eq, g0, show 0 < b by omega, b4, e]
    · have := Int.emod_nonneg a (show b ≠ 0 by omega)
      have := Int.emod_lt_of_pos a (show 0 < b by omega)
      omega
  · have h : ∃ v ms, f_l_random [.m [.int a, .int s, .int c], .d (.int b)] = some (v, ms) ∧ ∃ (r : Nat) (g' : List PD), v = .d (.int r) ∧ ms = [g'] ∧ (r : Int) < b ∧ G (n + 3) g' := by
      refine ok_def rfl (ok_seq ?_)
      simp [g0]
      refine ok_seq ?_
      simp
      obtain ⟨m, hm⟩ : ∃ m : Nat, (1 : Int) + (Builtin.Int.intBits b : Int) / 30 = m := ⟨(1 + (Builtin.Int.intBits b : Int) / 30).toNat, by omega⟩
      have m3 : m ≤ 3 := by omega
      refine ok_seq (ok_for (ρ1 := [.own false [.int a, .int s, .int c], .d (.int b), .d (.int 0), .emp]) (ds := rngD 0 m) (by simp [hm, rng_ok (show m < 2 ^ 62 by omega)])
        (fun i ρ => ∃ (dr : Int) (z : Sl), ρ = [.own false [.int a, .int s, .int (c + i)], .d (.int b), .d (.int dr), z] ∧ 0 ≤ dr ∧ dr < (2147483648 : Int) ^ i) ⟨0, .emp, by simp, by decide, by decide⟩ ?_ ?_)
      · rintro i x ρ hk ⟨dr, z, rfl, d0, d1⟩
        obtain ⟨hk, rfl⟩ := rng_at hk
        have dX : dr < (2147483648 : Int) ^ 3 := by
          refine Int.lt_of_lt_of_le d1 ?_
          have : i = 0 ∨ i = 1 ∨ i = 2 := by omega
          rcases this with rfl | rfl | rfl <;> decide
        have hr : 0 ≤ hashF s (c + i + 1) ∧ hashF s (c + i + 1) < 2147483587 := ⟨Int.emod_nonneg _ (by decide), Int.emod_lt_of_pos _ (by decide)⟩
        have b5 : bits4 dr = true := bits_ok 93 d0 (Int.lt_of_lt_of_le dX (by decide)) (by decide)
        have hh := w_hash hs hs' (show 0 ≤ c + i + 1 by omega) (by omega)
        refine ⟨_, rfl, ok_run (fl := .next) (ρ' := [.own false [.int a, .int s, .int (c + i + 1)], .d (.int b), .d (.int (dr * 2147483587 + hashF s (c + i + 1))), .d (.int i)]) (by simp [sSeq_eq, b5, hh]) ⟨_, _, by rw [show c + ((i + 1 : Nat) : Int) = c + i + 1 by omega], by omega, ?_⟩⟩
        rw [Int.pow_succ]
        omega
      · rintro ρ ⟨dr, z, rfl, d0, _⟩
        simp [show 0 < b by omega]
        have e1 := Int.emod_nonneg dr (show b ≠ 0 by omega)
        have e2 := Int.emod_lt_of_pos dr (show 0 < b by omega)
        refine ⟨(dr % b).toNat, by omega, by omega, a, s, _, rfl, ha, hs, hs', ?_, ?_⟩ <;> rw [rng_len] <;> omega
    obtain ⟨v, ms, e, r, g', rfl, rfl, h3, h4⟩ := h
    exact ⟨r, g', e, h3, h4⟩

end MU

namespace MU
open PySem PySem.Spec L2
def b_l_names : Sv :=
  (sSeq (sSet 2 (eCall f_l_random (xM (eVar 0) (xR (eC (.int 3)) xNil))))
  (sSeq (sSet 3 (eLst aNil))
  (sSeq (sSet 4 (eOp fIx (eLst (aCons (eDat (eC (.int 0))) (aCons (eDat (eCall f_l_random (xM (eVar 0) (xR (eC (.int 9)) xNil)))) (aCons (eDat (eOp fSub (eOp fSub (eOp fPow (eC (.int 10)) (eC (.int 18))) (eC (.int 1))) (eMul (eC (.int 1000)) (eOp fAdd (eVar 1) (eC (.int 1)))))) aNil)))) (eVar 2)))
  (sSeq (sFor (itRng1 (eVar 1)) (gvName 5) (sSeq (sAppend 3 (eVar 4))
  (sSet 4 (eOp fAdd (eOp fAdd (eVar 4) (eC (.int 1))) (eCall f_l_random (xM (eVar 0) (xR (eOp fIx (eLst (aCons (eDat (eC (.int 1))) (aCons (eDat (eC (.int 5))) (aCons (eDat (eC (.int 999))) aNil)))) (eVar 2)) xNil)))))))
  (sRet (eVar 3))))))
def f_l_names : Fn := fnOf 6 2 b_l_names
def b_l_open : Sv :=
  (sSeq (sSet 2 (eLst aNil))
  (sSeq (sFor (itEnum (eVar 0)) (gvTup 2 (gvsCons (gvName 3) (gvsCons (gvName 4) gvsNil))) (sIf (tvAnd (tvB (eOp fIsN (eOp fIx (eVar 1) (eVar 3)) (eC .none))) (tvOr (tvB (eOp fIsN (eVar 4) (eC .none))) (tvB (eOp fNotN (eOp fIx (eVar 1) (eVar 4)) (eC .none))))) (sAppend 2 (eVar 3)) sNext))
  (sRet (eVar 2))))
def f_l_open : Fn := fnOf 5 2 b_l_open
def b_l_filled : Sv :=
  (sSeq (sSet 3 (eMul (eLst (aCons (eDat (eC .none)) aNil)) (eCb fLen (aCons (eRd (eVar 1)) aNil))))
  (sSeq (sFor (itSeq (eVar 2)) (gvName 4) (sSeq (sSet 5 (eCall f_l_open (xR (eVar 1) (xR (eVar 3) xNil))))
  (sAsg (gvSub 3 (eOp fIx (eVar 5) (eCall f_l_random (xM (eVar 0) (xR (eCb fLen (aCons (eRd (eVar 5)) aNil)) xNil))))) (eVar 4))))
  (sRet (eCb fTuple (aCons (eRd (eVar 3)) aNil)))))
def f_l_filled : Fn := fnOf 6 3 b_l_filled
def b_l_random_rows : Sv :=
  (sSeq (sSet 2 (eCb fLen (aCons (eRd (eVar 1)) aNil)))
  (sSeq (sSet 3 (eOp fIx (eLst (aCons (eDat (eVar 2)) (aCons (eDat (eVar 2)) (aCons (eDat (eCall f_l_random (xM (eVar 0) (xR (eOp fAdd (eVar 2) (eC (.int 1))) xNil)))) aNil)))) (eCall f_l_random (xM (eVar 0) (xR (eC (.int 3)) xNil)))))
  (sRet (eCall f_l_filled (xM (eVar 0) (xR (eVar 1) (xR (eCall f_l_names (xM (eVar 0) (xR (eVar 3) xNil))) xNil)))))))
def f_l_random_rows : Fn := fnOf 4 2 b_l_random_rows
def b_l_held : Sv :=
  (sRet (eCb fSortedU (aCons (eRd (eLc [1] (itSeq (eVar 0)) (gvName 1) (tvB (eOp fNotN (eVar 1) (eC .none))) (eVar 1))) aNil)))
def f_l_held : Fn := fnOf 2 1 b_l_held
def b_l_way : Sv :=
  (sSeq (sSet 2 (eLst (aCons (eDat (eVar 1)) aNil)))
  (sSeq (whileL (tvB (eOp fNotN (eOp fIx (eVar 0) (eOp fIx (eVar 2) (eC (.int 0)))) (eC .none))) (sSet 2 (eOp fAdd (eLst (aCons (eDat (eOp fIx (eVar 0) (eOp fIx (eVar 2) (eC (.int 0))))) aNil)) (eVar 2))) 100000)
  (sRet (eVar 2))))
def f_l_way : Fn := fnOf 3 2 b_l_way
def chartLt (m : Nat) : PD → Prop := fun d => ∃ t, d = chartD t ∧ Chart t ∧ t.length < m
theorem chart_more {t : List Nat} (c : Chart t) {p : Nat} (h : p ≤ t.length) : Chart (t ++ [p]) := fun k q e => by
  by_cases z : k < t.length
  · rw [List.getElem?_append_left z] at e
    exact c k q e
  · rw [List.getElem?_append_right (by omega)] at e
    have l := (List.getElem?_eq_some_iff.mp e).1
    have : k = t.length := by
      rw [List.length_singleton] at l
      omega
    subst this
    rw [Nat.sub_self] at e
    cases e
    exact h
theorem chartL_more (t : List Nat) (p : Nat) : chartL (t ++ [p]) = chartL t ++ [PyData.int (p : Int)] := by simp [chartL]
theorem w_random_chart {n : Nat} {g : List PD} (hg : G n g) (hn : n + 300 ≤ 1000000000000) {m : Nat} (h1 : 1 ≤ m) (h2 : m ≤ 48) : ∃ (t : List Nat) (g' : List PD), f_l_random_chart [.m g, .d (.int m)] = some (.d (chartD t), [g']) ∧ Chart t ∧ t.length < m ∧ G (n + 300) g' := by
  obtain ⟨r0, g0, e0, l0, hg0⟩ := w_random hg (by omega) (b := m) (by omega) (by omega)
  obtain ⟨kd, g1, e1, lk, hg1⟩ := w_random hg0 (by omega) (b := 5) (by omega) (by omega)
  have h : ∃ v ms, f_l_random_chart [.m g, .d (.int m)] = some (v, ms) ∧ ∃ (t : List Nat) (g' : List PD), v = .d (chartD t) ∧ ms = [g'] ∧ Chart t ∧ t.length < m ∧ G (n + 300) g' := by
    refine ok_def rfl (ok_seq ?_)
    simp [e0]
    refine ok_seq ?_
    simp [e1]
    refine ok_seq ?_
    simp
    refine ok_seq (ok_for (ρ1 := [.own false g1, .d (.int m), .d (.int (1 + r0)), .d (.int kd), .own true (chartL []), .emp, .emp]) (ds := rngD 1 r0) (by
        have q : rngOk ((1 : Int) + r0) = true := by rw [show (1 : Int) + r0 = ((1 + r0 : Nat) : Int) by omega]; exact rng_ok (by omega)
        have q2 : (1 + (r0 : Int) - 1).toNat = r0 := by omega
        simp [q, q2])
      (fun i ρ => ∃ (t : List Nat) (g : List PD) (x5 x6 : Sl), Chart t ∧ t.length = i ∧ G (n + 6 + 6 * i) g ∧ ρ = [.own false g, .d (.int m), .d (.int (1 + r0)), .d (.int kd), .own true (chartL t), x5, x6]) ⟨[], g1, .emp, .emp, fun k p e => by simp at e, rfl, hg1, rfl⟩ ?_ ?_)
    · rintro i x ρ hk ⟨t, g, x5, x6, ct, lt, hg, rfl⟩
      obtain ⟨hi, rfl⟩ := rng_at hk
      obtain ⟨r1, g2, e2, l2, hg2⟩ := w_random hg (by omega) (b := (i : Int) + 1) (by omega) (by omega)
      obtain ⟨r2, g3, e3, l3, hg3⟩ := w_random hg2 (by omega) (b := 3) (by omega) (by omega)
      obtain ⟨z, ez, z0⟩ : ∃ z : Int, atI ([.int i, .int 0, .int r1, .int (max 0 ((i : Int) - r2)), .int (((i : Int) + 1) / 2)] : List PD) (kd : Int) = some (.int z) ∧ 0 ≤ z := by
        have : kd = 0 ∨ kd = 1 ∨ kd = 2 ∨ kd = 3 ∨ kd = 4 := by omega
        rcases this with rfl | rfl | rfl | rfl | rfl
        · exact ⟨_, at_nat rfl, by omega⟩
        · exact ⟨_, at_nat rfl, by omega⟩
        · exact ⟨_, at_nat rfl, by omega⟩
        · exact ⟨_, at_nat rfl, by omega⟩
        · exact ⟨_, at_nat rfl, by omega⟩
      have lc : t.length < 99999 := by omega
      refine ⟨[.own false g, .d (.int m), .d (.int (1 + r0)), .d (.int kd), .own true (chartL t), .d (.int ((i : Int) + 1)), x6], by rw [Int.add_comm]; rfl, ok_run (fl := .next) (ρ' := [.own false g3, .d (.int m), .d (.int (1 + r0)), .d (.int kd), .own true (chartL t ++ [.int (min (i : Int) z)]), .d (.int ((i : Int) + 1)), .own true [.int i, .int 0, .int r1, .int (max 0 ((i : Int) - r2)), .int (((i : Int) + 1) / 2)]]) (by simp [sSeq_eq, e2, e3, ez, lc]) ⟨t ++ [(min (i : Int) z).toNat], _, _, _, chart_more ct (by omega), by simp [lt], hg3.mono (by omega), by rw [chartL_more, Int.toNat_of_nonneg (by omega)]⟩⟩
    · rintro ρ ⟨t, g, x5, x6, ct, lt, hg, rfl⟩
      rw [rng_len] at lt hg
      simp
      exact ⟨t, rfl, ct, by omega, hg.mono (by omega)⟩
  obtain ⟨v, ms, e, t, g', rfl, rfl, h3, h4, h5⟩ := h
  exact ⟨t, g', e, h3, h4, h5⟩
/-- ascending names, none too great -/
structure Names (l : List Nat) (c : Nat) : Prop where
  len : l.length = c
  up : l.Pairwise (· < ·)
  top : ∀ n ∈ l, n + 2 < 1000000000000000000
theorem pair_more {l : List Nat} {n : Nat} (h : l.Pairwise (· < ·)) (t : ∀ m ∈ l, m < n) : (l ++ [n]).Pairwise (· < ·) :=
  List.pairwise_append.mpr ⟨h, List.pairwise_singleton _ _, fun a ha b hb => by rw [List.mem_singleton] at hb; subst hb; exact t a ha⟩
theorem three {kd : Nat} (h : kd < 3) (a b c : Int) : ∃ z : Int, atI ([.int a, .int b, .int c] : List PD) (kd : Int) = some (.int z) ∧ (z = a ∨ z = b ∨ z = c) := by
  have : kd = 0 ∨ kd = 1 ∨ kd = 2 := by omega
  rcases this with rfl | rfl | rfl
  · exact ⟨_, at_nat rfl, .inl rfl⟩
  · exact ⟨_, at_nat rfl, .inr (.inl rfl)⟩
  · exact ⟨_, at_nat rfl, .inr (.inr rfl)⟩
theorem w_names {n : Nat} {g : List PD} (hg : G n g) (hn : n + 160 ≤ 1000000000000) {c : Nat} (hc : c ≤ 48) : ∃ (l : List Nat) (g' : List PD), f_l_names [.m g, .d (.int c)] = some (.new (intsD l), [g']) ∧ Names l c ∧ G (n + 160) g' := by
  obtain ⟨kd, g0, e0, lk, hg0⟩ := w_random hg (by omega) (b := 3) (by omega) (by omega)
  obtain ⟨r9, g1, e1, l1, hg1⟩ := w_random hg0 (by omega) (b := 9) (by omega) (by omega)
  have h : ∃ v ms, f_l_names [.m g, .d (.int c)] = some (v, ms) ∧ ∃ (l : List Nat) (g' : List PD), v = .new (intsD l) ∧ ms = [g'] ∧ Names l c ∧ G (n + 160) g' := by
    refine ok_def rfl (ok_seq ?_)
    simp [e0]
    refine ok_seq ?_
    simp
    refine ok_seq ?_
    have b1 : bits4 ((c : Int) + 1) = true := bits_c (by omega) (by omega)
    obtain ⟨z, ez, z0⟩ := three (kd := kd) (by omega) 0 r9 (999999999999999999 - 1000 * ((c : Int) + 1))
    obtain ⟨a, rfl⟩ : ∃ a : Nat, z = a := ⟨z.toNat, by omega⟩
    simp [e1, pow_18, b1, ez]
    refine ok_seq (ok_for (ρ1 := [.own false g1, .d (.int c), .d (.int kd), .own true (intsD []), .d (.int a), .emp]) (ds := rngD 0 c) (by simp [rng_ok (show c < 2 ^ 62 by omega)])
      (fun i ρ => ∃ (l : List Nat) (g : List PD) (b : Nat) (y : Sl), l.length = i ∧ l.Pairwise (· < ·) ∧ (∀ m ∈ l, m < b) ∧ b + 1000 * (c + 1) ≤ 999999999999999999 + 1000 * i ∧ G (n + 6 + 3 * i) g ∧ ρ = [.own false g, .d (.int c), .d (.int kd), .own true (intsD l), .d (.int b), y]) ⟨[], g1, a, .emp, rfl, .nil, fun m h => (nomatch h), by omega, hg1, rfl⟩ ?_ ?_)
    · rintro i x ρ hk ⟨l, g, b, y, ll, lp, lb, hb, hg, rfl⟩
      obtain ⟨hi, rfl⟩ := rng_at hk
      obtain ⟨w, ew, w0⟩ := three (kd := kd) (by omega) 1 5 999
      obtain ⟨r, g2, e2, l2, hg2⟩ := w_random hg (by omega) (b := w) (by omega) (by omega)
      have l5 : l.length < 100000 := by omega
      refine ⟨_, rfl, ok_run (fl := .next) (ρ' := [.own false g2, .d (.int c), .d (.int kd), .own true (intsD (l ++ [b])), .d (.int ((b : Int) + 1 + r)), .d (.int (0 + i))]) (by simp [sSeq_eq, ew, e2, l5]) ⟨_, g2, b + 1 + r, _, by simp [ll], pair_more lp lb, fun m hm => ?_, by omega, hg2.mono (by omega), rfl⟩⟩
      rcases List.mem_append.mp hm with z | z
      · have := lb m z
        omega
      · rw [List.mem_singleton] at z
        omega
    · rintro ρ ⟨l, g, b, y, ll, lp, lb, hb, hg, rfl⟩
      rw [rng_len] at ll hb hg
      simp
      exact ⟨l, rfl, ⟨ll, lp, fun m hm => by have := lb m hm; omega⟩, hg.mono (by omega)⟩
  obtain ⟨v, ms, e, l, g', rfl, rfl, h3, h4⟩ := h
  exact ⟨l, g', e, h3, h4⟩
theorem range_more (n : Nat) (p : Nat → Bool) : (List.range (n + 1)).filter p = (List.range n).filter p ++ (if p n = true then [n] else []) := by
  rw [List.range_succ, List.filter_append, List.filter_cons, List.filter_nil]
theorem w_open {t : List Nat} {r : List (Option Nat)} (c : Chart t) (l : t.length < 1000) (lr : r.length = t.length + 1) {xd : PD} (h : Sq xd (rowL r)) : f_l_open [.d (chartD t), .d xd] = some (.new (intsD (openL t r)), []) := by
  refine ok_fn rfl (ok_seq ?_)
  simp
  refine ok_seq (ok_for (ρ1 := [.d (chartD t), .d xd, .own true [], .emp, .emp]) (it_en (i := 0) (.inr rfl) rfl) (fun i ρ => ∃ x y, ρ = [.d (chartD t), .d xd, .own true (intsD ((List.range i).filter (opn t r))), x, y]) ⟨_, _, rfl⟩ ?_ ?_)
  · rintro i x ρ hi ⟨x1, y1, rfl⟩
    have li : i < t.length + 1 := by
      have := (List.getElem?_eq_some_iff.mp hi).1
      rwa [enum_len, chart_len] at this
    obtain ⟨d, hd, rfl⟩ := enum_at hi
    obtain ⟨cc, hc⟩ := row_has (r := r) (k := i) (by omega)
    have h1 := at_nat (row_at hc)
    have fl : ((List.range i).filter (opn t r)).length < 100000 := by
      have := List.length_filter_le (opn t r) (List.range i)
      rw [List.length_range] at this
      omega
    have e1 := hold_at hc
    refine ⟨[.d (chartD t), .d xd, .own true (intsD ((List.range i).filter (opn t r))), .d (.int i), .d d], by simp, ?_⟩
    rw [range_more]
    by_cases k0 : i = 0
    · subst k0
      cases hd
      simp only [Int.cast_ofNat_Int] at h1
      cases cc <;> simp [opn, e1, h.ix, h1]
    · obtain ⟨p, hp, lp, ha, _⟩ := chart_look c (z := i) (by omega) li
      have hd2 : d = .int p := by
        have := chart_at hp
        rw [show i - 1 + 1 = i by omega, hd] at this
        exact Option.some.inj this
      subst hd2
      obtain ⟨cp, hcp⟩ := row_has (r := r) (k := p) (by omega)
      have h3 := at_nat (row_at hcp)
      cases cc <;> cases cp <;> simp [opn, e1, h.ix, h1, h3, par_at hp, hold_at hcp, k0, fl]
  · rintro ρ ⟨x, y, rfl⟩
    simp [openL, enum_len]

end MU

namespace MU
open PySem PySem.Spec L2
theorem w_filled0 {t : List Nat} (ct : Chart t) (lt : t.length < 48) {l : List Nat} {c : Nat} (ll : l.length = c) (up : l.Pairwise (· < ·)) (lc : c ≤ t.length + 1) {n : Nat} {g : List PD} (hg : G n g) (hn : n + 150 ≤ 1000000000000) {xd : PD} (hx : Sq xd (intsD l)) : ∃ (r : List (Option Nat)) (g' : List PD), f_l_filled [.m g, .d (chartD t), .d xd] = some (.d (rowD r), [g']) ∧ Arr t r ∧ (∀ m, some m ∈ r → m ∈ l) ∧ emp r + c = t.length + 1 ∧ G (n + 150) g' := by
  have h : ∃ v ms, f_l_filled [.m g, .d (chartD t), .d xd] = some (v, ms) ∧ ∃ (r : List (Option Nat)) (g' : List PD), v = .d (rowD r) ∧ ms = [g'] ∧ Arr t r ∧ (∀ m, some m ∈ r → m ∈ l) ∧ emp r + c = t.length + 1 ∧ G (n + 150) g' := by
    refine ok_def rfl (ok_seq ?_)
    have q1 : (0 : Int) ≤ (t.length : Int) + 1 ∧ (t.length : Int) + 1 ≤ 100000 ∧ ((t.length : Int) + 1).toNat ≤ 100000 := ⟨by omega, by omega, by omega⟩
    have q2 : ((t.length : Int) + 1).toNat = t.length + 1 := by omega
    have q4 : t.length + 1 ≤ 100000 := by omega
    simp [q1, q2, q4, List.replicate_succ]
    refine ok_seq (ok_for (ρ1 := [.own false g, .d (chartD t), .d xd, .own true (.none :: List.replicate t.length .none), .emp, .emp]) (it_sq (i := 2) hx rfl) (fun i ρ => ∃ (r : List (Option Nat)) (g : List PD) (x y : Sl), Arr t r ∧ emp r + i = t.length + 1 ∧ (∀ m, some m ∈ r → m ∈ l.take i) ∧ G (n + 3 * i) g ∧ ρ = [.own false g, .d (chartD t), .d xd, .own true (rowL r), x, y])
      ⟨_, g, .emp, .emp, arr_empty t, emp_all _, fun m h => (nomatch (List.eq_of_mem_replicate h)), hg, by simp [List.replicate_succ]⟩ ?_ ?_)
    · rintro i x ρ hi ⟨r, g, x1, y1, ar, em, hm, hg, rfl⟩
      obtain ⟨nm, hnm, rfl⟩ := ints_at hi
      have li : i < l.length := (List.getElem?_eq_some_iff.mp hnm).1
      have op := open_pos ct ar.len (show 0 < emp r by omega)
      have ol := open_len t r
      obtain ⟨q, g2, e2, l2, hg2⟩ := w_random hg (by omega) (b := ((openL t r).length : Int)) (by omega) (by omega)
      have lq : q < (openL t r).length := by omega
      obtain ⟨k, hk⟩ : ∃ k, (openL t r)[q]? = some k := ⟨_, List.getElem?_eq_getElem lq⟩
      have ha : atI (intsD (openL t r)) (q : Int) = some (.int k) := at_nat (by unfold intsD; rw [List.getElem?_map, hk]; rfl)
      obtain ⟨lk, ok⟩ := open_lt (List.mem_of_getElem? hk)
      have len := ar.len
      have hw := w_open (r := r) ct (by omega) len (xd := .list (rowL r)) (.inl rfl)
      have hi2 : ixN r.length (k : Int) = some k := ixN_nat (by omega)
      refine ⟨_, rfl, ok_run (fl := .next) (ρ' := [.own false g2, .d (chartD t), .d xd, .own true (rowL (r.set k (some nm))), .d (.int nm), .own true (intsD (openL t r))]) (by
        rw [row_set]
        simp [sSeq_eq, hw, e2, ha, hi2, flat_ints]) ⟨r.set k (some nm), g2, _, _, arr_put ct ar lk ok ?_, ?_, ?_, hg2.mono (by omega), rfl⟩⟩
      · intro m hr
        obtain ⟨j, hj⟩ := List.mem_iff_getElem?.mp (hm m hr)
        rw [List.getElem?_take] at hj
        split at hj
        · rename_i lj
          obtain ⟨lj2, ej⟩ := List.getElem?_eq_some_iff.mp hj
          obtain ⟨li2, ei⟩ := List.getElem?_eq_some_iff.mp hnm
          rw [← ej, ← ei]
          exact List.pairwise_iff_getElem.mp up j i lj2 li2 lj
        · cases hj
      · have e1 : r[k]? = some none := by
          obtain ⟨c', hc'⟩ := row_has (r := r) (k := k) (by omega)
          have := hold_at hc'
          unfold opn at ok
          rw [this] at ok
          cases c' with
          | none => exact hc'
          | some v => simp at ok
        have := emp_put (n := nm) e1
        omega
      · intro m hr
        rw [take_more hnm]
        rcases List.mem_or_eq_of_mem_set hr with z | z
        · exact List.mem_append_left _ (hm m z)
        · cases z
          exact List.mem_append_right _ (List.mem_singleton_self _)
    · rintro ρ ⟨r, g, x, y, ar, em, hm, hg, rfl⟩
      rw [ints_len] at em hm hg
      simp
      exact ⟨r, rfl, ar, fun m h => List.mem_of_mem_take (hm m h), by omega, hg.mono (by omega)⟩
  obtain ⟨v, ms, e, r, g', rfl, rfl, h3, h4, h5, h6⟩ := h
  exact ⟨r, g', e, h3, h4, h5, h6⟩
theorem w_filled {t : List Nat} (ct : Chart t) (lt : t.length < 48) {l : List Nat} {c : Nat} (nl : Names l c) (lc : c ≤ t.length + 1) {n : Nat} {g : List PD} (hg : G n g) (hn : n + 150 ≤ 1000000000000) {xd : PD} (hx : Sq xd (intsD l)) : ∃ (r : List (Option Nat)) (g' : List PD), f_l_filled [.m g, .d (chartD t), .d xd] = some (.d (rowD r), [g']) ∧ Arr t r ∧ (∀ m, some m ∈ r → m ∈ l) ∧ emp r + c = t.length + 1 ∧ G (n + 150) g' := w_filled0 ct lt nl.len nl.up lc hg hn hx
theorem w_held {r : List (Option Nat)} (l : r.length ≤ 1000) {xd : PD} (h : Sq xd (rowL r)) : f_l_held [.d xd] = some (.new (intsD (sortN (heldL r))), []) := w_people l h
theorem w_rows {t : List Nat} (ct : Chart t) (lt : t.length < 40) {n : Nat} {g : List PD} (hg : G n g) (hn : n + 320 ≤ 1000000000000) : ∃ (r : List (Option Nat)) (g' : List PD), f_l_random_rows [.m g, .d (chartD t)] = some (.d (rowD r), [g']) ∧ Arr t r ∧ (∀ m, some m ∈ r → m + 2 < 1000000000000000000) ∧ G (n + 320) g' := by
  obtain ⟨r0, g0, e0, l0, hg0⟩ := w_random hg (by omega) (b := (t.length : Int) + 1 + 1) (by omega) (by omega)
  obtain ⟨kd, g1, e1, l1, hg1⟩ := w_random hg0 (by omega) (b := 3) (by omega) (by omega)
  obtain ⟨z, ez, z0⟩ := three (kd := kd) (by omega) ((t.length : Int) + 1) ((t.length : Int) + 1) r0
  obtain ⟨c, rfl⟩ : ∃ c : Nat, z = c := ⟨z.toNat, by omega⟩
  obtain ⟨l, g2, e2, nl, hg2⟩ := w_names hg1 (by omega) (c := c) (by omega)
  obtain ⟨r, g3, e3, ar, hm, _, hg3⟩ := w_filled ct (by omega) nl (by omega) hg2 (by omega) sq_l
  refine ⟨r, g3, ok_fn rfl ?_, ar, fun m h => nl.top m (hm m h), hg3.mono (by omega)⟩
  simp [b_l_random_rows, sSeq_eq, e0, e1, ez, e2, e3]
theorem w_way {t : List Nat} (c : Chart t) (l : t.length < 1000) {j : Nat} (lj : j < t.length + 1) : f_l_way [.d (chartD t), .d (.int j)] = some (.new (intsD (way t j)), []) := by
  refine ok_fn rfl (ok_seq ?_)
  simp
  refine ok_seq (ok_while (m := j) (fun n ρ => ∃ (q : Nat) (post : List Nat), q = n ∧ q ≤ j ∧ way t j = way t q ++ post ∧ post.length ≤ j - q ∧ ρ = [.d (chartD t), .d (.int j), .own true (intsD (q :: post))]) ⟨j, [], rfl, Nat.le_refl _, by simp, by simp, rfl⟩ (by omega) ?_)
  rintro n ρ ⟨q, post, rfl, lq, ew, lp, rfl⟩
  by_cases h0 : 0 < q
  · obtain ⟨p, hp, lpq, ha, es⟩ := chart_look c h0 (by omega)
    have l5 : 1 + (post.length + 1) ≤ 100000 := by omega
    refine ⟨true, [.d (chartD t), .d (.int j), .own true (intsD (q :: post))], by simp [ha], fun z => (by cases z), fun _ => ?_⟩
    exact ok_run (fl := .next) (ρ' := [.d (chartD t), .d (.int j), .own true (intsD (p :: q :: post))]) (by simp [ha, l5]) ⟨p, lpq, p, q :: post, rfl, by omega, by rw [ew, es]; simp, by simp; omega, rfl⟩
  · have e0 : q = 0 := by omega
    subst e0
    refine ⟨false, [.d (chartD t), .d (.int j), .own true (intsD (0 :: post))], by simp, fun _ => ?_, fun z => (by cases z)⟩
    simp
    rw [ew, way_zero]
    simp

end MU

namespace MU
open PySem PySem.Spec L2
/-- a number's text -/
def numS (n : Nat) : Str := Str.ofString (toString (n : Int))
def showS (l : List Nat) : Str := PyData.shown (.list (intsD l))
theorem eqv_str (x : Str) : PyData.eqv (.str x) (.str x) = true := by simp [PyData.eqv]
theorem shp_strI (c : Int) : SeqAt.shaped (.str (toString c)) = true := shp_ok (n := 0) (shp_str _)
theorem shp_shown (l : List Nat) : SeqAt.shaped (.str (PyData.shown (.list (intsD l)))) = true := shp_ok (n := 0) ⟨shown_ints_ok l, Nat.zero_le _⟩
theorem repr_ints {l : List Nat} (h : ∀ n ∈ l, n < 2 ^ 62) (ll : l.length ≤ 1000) : fRepr [.list (intsD l)] = some (.d (.str (showS l))) := by
  obtain ⟨s1, s2, s3, s4, s5⟩ := show_all l h
  have shown : (PyData.shown (.list (intsD l))).length ≤ sizeLine := by
    refine Nat.le_trans (listText_len_le _) ?_
    have : (100000 : Nat) ≤ sizeLine := by decide
    omega
  have dep : (PyData.list (intsD l)).depth ≤ 60 := by
    show PyData.depthAll (intsD l) + 1 ≤ 60
    rw [s3]
    decide
  unfold fRepr
  dsimp only
  rw [if_pos ⟨s1, s2, dep, shown⟩]
  rfl
theorem repr_nat {n : Nat} (h : n < 2 ^ 62) : fRepr [.int n] = some (.d (.str (numS n))) := by
  have a := int_show h
  have b : (PyData.shown (.int (n : Int))).length ≤ sizeLine := int_text_fits a
  unfold fRepr
  dsimp only
  rw [if_pos ⟨decide_eq_true a, rfl, Nat.zero_le _, b⟩]
  rfl
set_option exponentiation.threshold 5000 in
theorem str_nat {n : Nat} (h : n < 2 ^ 62) : fStr [.int n] = some (.d (.str (numS n))) := by
  unfold fStr
  dsimp only
  have e : (n : Int).natAbs < 2 ^ 1900 := by rw [Int.natAbs_natCast]; exact Nat.lt_of_lt_of_le h (Nat.pow_le_pow_right (by decide) (by decide))
  rw [if_pos e]
  rfl
theorem ne_same {x : PD} (s : SeqAt.shaped x = true) (e : PyData.eqv x x = true) : fNe x x = some (.d (.bool false)) := by
  unfold fNe
  rw [if_pos ⟨s, s⟩, e]
  rfl
theorem eq_is {x y : PD} {b : Bool} (s : SeqAt.shaped x = true) (s2 : SeqAt.shaped y = true) (e : PyData.eqv x y = b) : fEq x y = some (.d (.bool b)) := by
  unfold fEq
  rw [if_pos ⟨s, s2⟩, e]
theorem ne_is {x y : PD} {b : Bool} (s : SeqAt.shaped x = true) (s2 : SeqAt.shaped y = true) (e : PyData.eqv x y = b) : fNe x y = some (.d (.bool (!b))) := by
  unfold fNe
  rw [if_pos ⟨s, s2⟩, e]
@[simp] theorem ne_strI (n : Nat) : fNe (.str (numS n)) (.str (numS n)) = some (.d (.bool false)) := ne_same (shp_strI _) (eqv_str _)
@[simp] theorem eq_strI (n : Nat) : fEq (.str (numS n)) (.str (numS n)) = some (.d (.bool true)) := eq_is (shp_strI _) (shp_strI _) (eqv_str _)
@[simp] theorem ne_shown (l : List Nat) : fNe (.str (showS l)) (.str (showS l)) = some (.d (.bool false)) := ne_same (shp_shown _) (eqv_str _)
theorem shp_L {d : PD} {n : Nat} (h : Shp n d) (l : n ≤ 64 := by decide) : SeqAt.shaped d = true := shp_ok h l
theorem eqv_ints (l l' : List Nat) : PyData.eqv (.list (intsD l)) (.list (intsD l')) = decide (l = l') := by
  show PyData.eqvAll (intsD l) (intsD l') = _
  induction l generalizing l' with
  | nil => cases l' <;> simp [PyData.eqvAll]
  | cons a l ih =>
    cases l' with
    | nil => simp [PyData.eqvAll]
    | cons b l' =>
      have e : PyData.eqvAll (intsD (a :: l)) (intsD (b :: l')) = (PyData.eqv (.int a) (.int b) && PyData.eqvAll (intsD l) (intsD l')) := by
        simp only [ints_c, PyData.eqvAll]
      rw [e, ih]
      have e2 : PyData.eqv (.int (a : Int)) (.int (b : Int)) = decide (a = b) := by
        simp only [PyData.eqv]
        by_cases h : a = b
        · subst h; simp
        · simp [h]; omega
      rw [e2]
      by_cases h : a = b <;> by_cases h' : l = l' <;> simp [h, h']
@[simp] theorem ne_ints (l l' : List Nat) : fNe (.list (intsD l)) (.list (intsD l')) = some (.d (.bool (!decide (l = l')))) := ne_is (shp_L (shp_ints l)) (shp_L (shp_ints l')) (eqv_ints l l')
@[simp] theorem eq_ints (l l' : List Nat) : fEq (.list (intsD l)) (.list (intsD l')) = some (.d (.bool (decide (l = l')))) := eq_is (shp_L (shp_ints l)) (shp_L (shp_ints l')) (eqv_ints l l')
@[simp] theorem ne_ints0 (l : List Nat) : fNe (.list (intsD l)) (.list []) = some (.d (.bool (!decide (l = [])))) := ne_ints l []
@[simp] theorem eq_ints0 (l : List Nat) : fEq (.list (intsD l)) (.list []) = some (.d (.bool (decide (l = [])))) := eq_ints l []
@[simp] theorem eq_00 : fEq (.list []) (.list []) = some (.d (.bool true)) := eq_ints [] []
@[simp] theorem ne_00 : fNe (.list []) (.list []) = some (.d (.bool false)) := ne_ints [] []
theorem lcL_inv {vs : List Nat} {gv : Gv} {tv : Tv} {e : Ev} {ds : List PD} {ρ : Sts} (I : Nat → List PD → Sts → Prop) (h0 : I 0 [] ρ) (hs : ∀ (k : Nat) (x : PD) (ys : List PD) (ρ : Sts), ds[k]? = some x → I k ys ρ → ∃ o ρ', lcT vs gv tv e x ρ = some (o, ρ') ∧ I (k + 1) (ys ++ o.toList) ρ') : ∃ ys ρ', lcL vs gv tv e ds ρ = some (ys, ρ') ∧ I ds.length ys ρ' := by
  suffices H : ∀ (n : Nat) (zs : List PD) (ρ : Sts), n ≤ ds.length → I n zs ρ → ∃ ys ρ', lcL vs gv tv e (ds.drop n) ρ = some (ys, ρ') ∧ I ds.length (zs ++ ys) ρ' by
    obtain ⟨ys, ρ', h1, h2⟩ := H 0 [] ρ (Nat.zero_le _) h0
    exact ⟨ys, ρ', by simpa using h1, by simpa using h2⟩
  intro n
  induction hm : ds.length - n generalizing n with
  | zero =>
    intro zs ρ l i
    have e : n = ds.length := by omega
    subst e
    rw [List.drop_length]
    exact ⟨[], ρ, rfl, by rwa [List.append_nil]⟩
  | succ m ih =>
    intro zs ρ l i
    have ln : n < ds.length := by omega
    obtain ⟨o, ρ1, h1, h2⟩ := hs n ds[n] zs ρ (List.getElem?_eq_getElem ln) i
    obtain ⟨ys, ρ', h3, h4⟩ := ih (n + 1) (by omega) (zs ++ o.toList) ρ1 (by omega) h2
    rw [List.drop_eq_getElem_cons ln]
    refine ⟨o.toList ++ ys, ρ', ?_, by rwa [← List.append_assoc]⟩
    unfold lcT at h1
    unfold lcL
    cases e1 : gv ds[n] ρ with
    | none => rw [e1] at h1; cases h1
    | some ρa =>
      rw [e1] at h1
      dsimp only at h1 ⊢
      cases e2 : tv ρa with
      | none => rw [e2] at h1; cases h1
      | some q =>
        obtain ⟨b, ρb⟩ := q
        rw [e2] at h1
        cases b with
        | false =>
          dsimp only at h1 ⊢
          cases h1
          exact h3
        | true =>
          dsimp only at h1 ⊢
          split at h1
          · rename_i y ρc e3
            cases h1
            try rw [e3]
            try dsimp only
            rw [h3]
            rfl
          · cases h1
theorem lc_go {vs : List Nat} {it : Iv} {gv : Gv} {tv : Tv} {e : Ev} {ds : List PD} {ρ ρ1 : Sts} (I : Nat → List PD → Sts → Prop) (hi : it ρ = some (ds, ρ1)) (hl : ds.length ≤ 100000) (h0 : I 0 [] (wipeS ρ1 vs)) (hs : ∀ (k : Nat) (x : PD) (ys : List PD) (ρ : Sts), ds[k]? = some x → I k ys ρ → ∃ o ρ', lcT vs gv tv e x ρ = some (o, ρ') ∧ I (k + 1) (ys ++ o.toList) ρ') : ∃ ys ρ', eLc vs it gv tv e ρ = some (.new ys, backS ρ1 vs ρ') ∧ I ds.length ys ρ' := by
  obtain ⟨ys, ρ', h1, h2⟩ := lcL_inv (gv := gv) (tv := tv) (e := e) I h0 hs
  refine ⟨ys, ρ', ?_, h2⟩
  rw [eLc_eq, hi]
  dsimp only
  rw [if_pos hl, h1]
/-- rows that are drawn -/
structure Drawn (t : List Nat) (r : List (Option Nat)) : Prop where
  arr : Arr t r
  top : ∀ m, some m ∈ r → m + 2 < 1000000000000000000
theorem rows_at {rs : List (List (Option Nat))} {k : Nat} {x : PD} (h : (rs.map rowD)[k]? = some x) : ∃ r, rs[k]? = some r ∧ x = rowD r := by
  rw [List.getElem?_map] at h
  cases e : rs[k]? with
  | none => rw [e] at h; cases h
  | some r => rw [e] at h; cases h; exact ⟨r, rfl, rfl⟩
/-- three arrangements drawn -/
theorem w_drawn {t : List Nat} (ct : Chart t) (lt : t.length < 40) {n m vi : Nat} {g : List PD} (hg : G n g) (hn : n + 320 * m ≤ 1000000000000) (hm : m ≤ 100) {x1 x2 x4 : Sl} : ∃ (rs : List (List (Option Nat))) (g' : List PD), eLc [5] (itRng1 (eC (.int m))) (gvName 5) tvYes (eCall f_l_random_rows (xM (eVar 2) (xR (eVar 3) xNil))) [x1, x2, .own true g, .d (chartD t), x4, .emp] = some (.new (rs.map rowD), [x1, x2, .own true g', .d (chartD t), x4, .emp]) ∧ rs.length = m ∧ (∀ r ∈ rs, Drawn t r) ∧ G (n + 320 * m) g' := by
  obtain ⟨ys, ρ', e1, rs, g', rfl, rfl, h1, h2, h3⟩ := lc_go (vs := [5]) (it := itRng1 (eC (.int m))) (gv := gvName 5) (tv := tvYes) (e := eCall f_l_random_rows (xM (eVar 2) (xR (eVar 3) xNil))) (ρ := [x1, x2, .own true g, .d (chartD t), x4, .emp]) (ρ1 := [x1, x2, .own true g, .d (chartD t), x4, .emp]) (ds := rngD 0 m) (fun k ys ρ => ∃ (rs : List (List (Option Nat))) (g' : List PD), ys = rs.map rowD ∧ ρ = [x1, x2, .own true g', .d (chartD t), x4, .emp] ∧ rs.length = k ∧ (∀ r ∈ rs, Drawn t r) ∧ G (n + 320 * k) g') (by simp [rng_ok (show m < 2 ^ 62 by omega)]) (by rw [rng_len]; omega) ⟨[], g, rfl, by simp, rfl, by simp, hg⟩ (by
    rintro k x ys ρ hk ⟨rs, g', rfl, rfl, h1, h2, h3⟩
    obtain ⟨lk, rfl⟩ := rng_at hk
    obtain ⟨r, g2, e2, ar, top, hg2⟩ := w_rows ct lt h3 (by omega)
    refine ⟨some (rowD r), [x1, x2, .own true g2, .d (chartD t), x4, .emp], by simp [e2], rs ++ [r], g2, by simp, rfl, by simp [h1], fun r' h => ?_, hg2.mono (by omega)⟩
    rcases List.mem_append.mp h with h | h
    · exact h2 r' h
    · rw [List.mem_singleton] at h
      subst h
      exact ⟨ar, top⟩)
  rw [rng_len] at h1 h3
  exact ⟨rs, g', by simpa using e1, h1, h2, h3⟩

end MU

namespace MU
open PySem PySem.Spec L2
def b_l_moves : Sv :=
  (sSeq (sSet 3 (eIndex (eCb fList (aCons (eRd (eVar 1)) aNil)) (eVar 2)))
  (sSeq (sSet 4 (eLst aNil))
  (sSeq (whileL (tvB (eOp fNotN (eVar 3) (eC .none))) (sSeq (sSet 5 (eLc [7, 8] (itEnum (eVar 0)) (gvTup 2 (gvsCons (gvName 7) (gvsCons (gvName 8) gvsNil))) (tvAnd (tvB (eOp fEq (eVar 8) (eVar 3))) (tvB (eOp fNotN (eOp fIx (eVar 1) (eVar 7)) (eC .none)))) (eTup (aCons (eDat (eOp fIx (eVar 1) (eVar 7))) (aCons (eDat (eVar 7)) aNil)))))
  (sSeq (sFor (itSeq (eSl (eCb fSortedU (aCons (eRd (eVar 5)) aNil)) oNo (oSome (eC (.int 1))))) (gvTup 2 (gvsCons (gvName 6) (gvsCons (gvName 7) gvsNil))) (sAppend 4 (eTup (aCons (eDat (eVar 6)) (aCons (eDat (eVar 7)) (aCons (eDat (eVar 3)) aNil))))))
  (sSet 3 (eOp fIx (eOp fIx (eOp fAdd (eCb fSortedU (aCons (eRd (eVar 5)) aNil)) (eLst (aCons (eDat (eTup (aCons (eDat (eC .none)) (aCons (eDat (eC .none)) aNil)))) aNil))) (eC (.int 0))) (eC (.int 1)))))) 100000)
  (sRet (eVar 4)))))
def f_l_moves : Fn := fnOf 9 3 b_l_moves
def b_l_left : Sv :=
  (sSeq (sSet 3 (eCall f_l_moves (xR (eVar 0) (xR (eVar 1) (xR (eVar 2) xNil)))))
  (sSeq (sSet 4 (eCb fList (aCons (eRd (eVar 1)) aNil)))
  (sSeq (sAsg (gvSub 4 (eIndexO 4 (eVar 2))) (eC .none))
  (sSeq (sFor (itSeq (eVar 3)) (gvTup 3 (gvsCons (gvName 5) (gvsCons (gvName 6) (gvsCons (gvName 7) gvsNil)))) (sSeq (sAsg (gvSub 4 (eVar 7)) (eVar 5))
  (sAsg (gvSub 4 (eVar 6)) (eC .none))))
  (sRet (eCb fTuple (aCons (eRd (eVar 4)) aNil)))))))
def f_l_left : Fn := fnOf 8 3 b_l_left
def b_l_shuffled : Sv :=
  (sSeq (sSet 2 (eCb fList (aCons (eRd (eVar 1)) aNil)))
  (sRet (eLc [3] (itSeq (eVar 1)) (gvName 3) tvYes (ePop 2 (eCall f_l_random (xM (eVar 0) (xR (eCb fLen (aCons (eRd (eVar 2)) aNil)) xNil)))))))
def f_l_shuffled : Fn := fnOf 4 2 b_l_shuffled
def b_l_some : Sv :=
  (sRet (eLc [2] (itSeq (eCall f_l_shuffled (xM (eVar 0) (xR (eVar 1) xNil)))) (gvName 2) (tvB (eOp fEq (eCall f_l_random (xM (eVar 0) (xR (eC (.int 2)) xNil))) (eC (.int 0)))) (eVar 2)))
def f_l_some : Fn := fnOf 3 2 b_l_some
def b_l_all_left : Sv :=
  (sSeq (sFor (itSeq (eVar 2)) (gvName 3) (sSet 1 (eCall f_l_left (xR (eVar 0) (xR (eVar 1) (xR (eVar 3) xNil))))))
  (sRet (eVar 1)))
def f_l_all_left : Fn := fnOf 4 3 b_l_all_left
def b_l_one_by_one : Sv :=
  (sSeq (sFor (itSeq (eVar 2)) (gvName 3) (sSeq (sSet 1 (eStar2 f_leave (aCons (eDat (eVar 0)) (aCons (eDat (eVar 1)) (aCons (eDat (eVar 3)) aNil)))))
  (sIf (tvB (eOp fNotN (eCall f_check_arrangement (xR (eVar 0) (xR (eVar 1) xNil))) (eC .none))) (sRet (eC .none)) sNext)))
  (sRet (eVar 1)))
def f_l_one_by_one : Fn := fnOf 4 3 b_l_one_by_one
theorem ep_rng {n : Nat} (h : n < 1000) : rngOk (n : Int) = true := rng_ok (by omega)
theorem erase_perm {l : List Nat} {k x : Nat} (h : l[k]? = some x) : l.Perm (x :: l.eraseIdx k) := by
  induction l generalizing k with
  | nil => cases h
  | cons a l ih =>
    cases k with
    | zero => cases h; exact .refl _
    | succ k =>
      have := ih (k := k) (by simpa using h)
      rw [List.eraseIdx_cons_succ]
      exact (this.cons a).trans (.swap x a _)
theorem ints_erase (l : List Nat) (k : Nat) : (intsD l).eraseIdx k = intsD (l.eraseIdx k) := by
  unfold intsD
  induction l generalizing k with
  | nil => rfl
  | cons a l ih => cases k with
    | zero => rfl
    | succ k => simp [List.eraseIdx_cons_succ, ih]
theorem ints_get {l : List Nat} {k n : Nat} (h : l[k]? = some n) : (intsD l)[k]? = some (.int n) := by
  unfold intsD
  rw [List.getElem?_map, h]
  rfl
theorem w_shuffled {l : List Nat} (ll : l.length ≤ 200) {n : Nat} {g : List PD} (hg : G n g) (hn : n + 3 * l.length ≤ 1000000000000) : ∃ (l' : List Nat) (g' : List PD), f_l_shuffled [.m g, .d (.list (intsD l))] = some (.new (intsD l'), [g']) ∧ l'.Perm l ∧ G (n + 3 * l.length) g' := by
  obtain ⟨ys, ρ', e1, zs, pool, g', rfl, rfl, h1, h2, h3⟩ := lc_go (vs := [3]) (it := itSeq (eVar 1)) (gv := gvName 3) (tv := tvYes) (e := ePop 2 (eCall f_l_random (xM (eVar 0) (xR (eCb fLen (aCons (eRd (eVar 2)) aNil)) xNil)))) (ρ := [.own false g, .d (.list (intsD l)), .own true (intsD l), .emp]) (ρ1 := [.own false g, .d (.list (intsD l)), .own true (intsD l), .emp]) (ds := intsD l) (fun k ys ρ => ∃ (zs pool : List Nat) (g' : List PD), ys = intsD zs ∧ ρ = [.own false g', .d (.list (intsD l)), .own true (intsD pool), .emp] ∧ (zs ++ pool).Perm l ∧ pool.length + k = l.length ∧ G (n + 3 * k) g') (by simp) (by rw [ints_len]; omega) ⟨[], l, g, rfl, rfl, .refl _, rfl, hg⟩ (by
    rintro k x ys ρ hk ⟨zs, pool, g', rfl, rfl, h1, h2, h3⟩
    obtain ⟨nm, hnm, rfl⟩ := ints_at hk
    have lk : k < l.length := (List.getElem?_eq_some_iff.mp hnm).1
    obtain ⟨r, g2, e2, lr, hg2⟩ := w_random h3 (by omega) (b := (pool.length : Int)) (by omega) (by omega)
    have lr2 : r < pool.length := by omega
    obtain ⟨a, ha⟩ : ∃ a, pool[r]? = some a := ⟨_, List.getElem?_eq_getElem lr2⟩
    refine ⟨some (.int a), [.own false g2, .d (.list (intsD l)), .own true (intsD (pool.eraseIdx r)), .emp], by simp [e2, ixN_nat lr2, ints_get ha, ints_erase, ep_rng (show r < 1000 by omega)], zs ++ [a], pool.eraseIdx r, g2, by simp, rfl, ?_, ?_, hg2.mono (by omega)⟩
    · refine .trans ?_ h1
      rw [List.append_assoc]
      exact ((erase_perm ha).symm).append_left zs
    · rw [List.length_eraseIdx_of_lt lr2]
      omega)
  have e0 : pool = [] := by
    rw [ints_len] at h2
    exact List.length_eq_zero_iff.mp (by omega)
  subst e0
  rw [List.append_nil] at h1
  rw [ints_len] at h3
  refine ⟨zs, g', ok_fn rfl (ok_seq (ok_run (fl := .next) (ρ' := [.own false g, .d (.list (intsD l)), .own true (intsD l), .emp]) (by simp) ?_)), h1, h3⟩
  simp [-eLc_eq, e1]
theorem w_some {l : List Nat} (ll : l.length ≤ 200) {n : Nat} {g : List PD} (hg : G n g) (hn : n + 6 * l.length ≤ 1000000000000) : ∃ (l' : List Nat) (g' : List PD), f_l_some [.m g, .d (.list (intsD l))] = some (.new (intsD l'), [g']) ∧ (∀ x ∈ l', x ∈ l) ∧ (l.Nodup → l'.Nodup) ∧ l'.length ≤ l.length ∧ G (n + 6 * l.length) g' := by
  obtain ⟨l1, g1, e1, p1, hg1⟩ := w_shuffled ll hg (by omega)
  have lp := p1.length_eq
  obtain ⟨ys, ρ', e2, zs, g', rfl, rfl, h1, h3⟩ := lc_go (vs := [2]) (it := itSeq (eCall f_l_shuffled (xM (eVar 0) (xR (eVar 1) xNil)))) (gv := gvName 2) (tv := tvB (eOp fEq (eCall f_l_random (xM (eVar 0) (xR (eC (.int 2)) xNil))) (eC (.int 0)))) (e := eVar 2) (ρ := [.own false g, .d (.list (intsD l)), .emp]) (ρ1 := [.own false g1, .d (.list (intsD l)), .emp]) (ds := intsD l1) (fun k ys ρ => ∃ (zs : List Nat) (g' : List PD), ys = intsD zs ∧ ρ = [.own false g', .d (.list (intsD l)), .emp] ∧ zs.Sublist (l1.take k) ∧ G (n + 3 * l.length + 3 * k) g') (by simp [e1]) (by rw [ints_len]; omega) ⟨[], g1, rfl, rfl, by simp, hg1⟩ (by
    rintro k x ys ρ hk ⟨zs, g', rfl, rfl, h1, h3⟩
    obtain ⟨nm, hnm, rfl⟩ := ints_at hk
    have lk : k < l1.length := (List.getElem?_eq_some_iff.mp hnm).1
    obtain ⟨r, g2, e2, lr, hg2⟩ := w_random h3 (by omega) (b := 2) (by omega) (by omega)
    have hs : (zs ++ [nm]).Sublist (l1.take (k + 1)) := by rw [take_more hnm]; exact h1.append (.refl _)
    have hs2 : zs.Sublist (l1.take (k + 1)) := by rw [take_more hnm]; exact h1.trans (List.sublist_append_left _ _)
    by_cases r0 : r = 0
    · exact ⟨some (.int nm), [.own false g2, .d (.list (intsD l)), .emp], by simp [e2, r0], zs ++ [nm], g2, by simp, rfl, hs, hg2.mono (by omega)⟩
    · exact ⟨none, [.own false g2, .d (.list (intsD l)), .emp], by simp [e2, r0], zs, g2, by simp, rfl, hs2, hg2.mono (by omega)⟩)
  rw [ints_len, List.take_length] at h1
  rw [ints_len] at h3
  refine ⟨zs, g', ok_fn rfl ?_, fun x hx => p1.mem_iff.mp (h1.subset hx), fun nd => h1.nodup (p1.nodup_iff.mpr nd), ?_, h3.mono (by omega)⟩
  · simp [b_l_some, -eLc_eq, e2]
  · have := h1.length_le
    omega

end MU

namespace MU
open PySem PySem.Spec L2
theorem minP_least (z : Int × Int) (l : List (Int × Int)) : ∀ y ∈ z :: l, leP (minP z l) y := by
  unfold minP
  induction l generalizing z with
  | nil =>
    intro y hy
    rw [List.mem_singleton] at hy
    subst hy
    exact leP_iff.mpr (.inr ⟨rfl, Int.le_refl _⟩)
  | cons x l ih =>
    intro y hy
    rw [List.foldl_cons]
    have first : leP (if lessP x z then x else z) z ∧ leP (if lessP x z then x else z) x := by
      by_cases h : lessP x z = true
      · rw [if_pos h]
        have := lessP_iff.mp h
        exact ⟨leP_iff.mpr (by omega), leP_iff.mpr (by omega)⟩
      · rw [if_neg h]
        have h' : leP z x := by unfold leP; simpa using h
        exact ⟨leP_iff.mpr (by omega), h'⟩
    have top := leP_iff.mp (ih (if lessP x z then x else z) _ List.mem_cons_self)
    have f1 := leP_iff.mp first.1
    have f2 := leP_iff.mp first.2
    rcases List.mem_cons.mp hy with q | q
    · subst q
      exact leP_iff.mpr (by omega)
    · rcases List.mem_cons.mp q with q | q
      · subst q
        exact leP_iff.mpr (by omega)
      · exact ih _ y (List.mem_cons_of_mem _ q)
theorem sortP_head (z : Int × Int) (l : List (Int × Int)) : ∃ l', sortP (z :: l) = minP z l :: l' := by
  have pm := sortP_perm (z :: l)
  have sd := sortP_sorted (z :: l)
  cases e : sortP (z :: l) with
  | nil => rw [e] at pm; have := pm.length_eq; simp at this
  | cons x l' =>
    rw [e] at pm sd
    have h1 : x ∈ z :: l := pm.mem_iff.mp List.mem_cons_self
    have h2 := leP_iff.mp (minP_least z l x h1)
    have h3 : minP z l ∈ x :: l' := pm.mem_iff.mpr (min_mem z l)
    have h4 : leP x (minP z l) := by
      rcases List.mem_cons.mp h3 with q | q
      · rw [q]
        exact leP_iff.mpr (.inr ⟨rfl, Int.le_refl _⟩)
      · exact (List.pairwise_cons.mp sd).1 _ q
    have h5 := leP_iff.mp h4
    have e1 : x = minP z l := Prod.ext (by omega) (by omega)
    exact ⟨l', by rw [e1]⟩
theorem enum_range (ds : List PD) : enumD ds = (List.range ds.length).map fun i => .tuple [.int (i : Nat), (ds[i]?).getD .none] := by
  refine List.ext_getElem? fun i => ?_
  unfold enumD
  rw [List.getElem?_map, List.getElem?_map, List.getElem?_zipIdx]
  by_cases h : i < ds.length
  · rw [List.getElem?_range h, List.getElem?_eq_getElem h]
    simp [h]
  · rw [List.getElem?_eq_none (show ds.length ≤ i by omega), List.getElem?_eq_none (by rw [List.length_range]; omega)]
    rfl
theorem fm_filter {α β : Type} (p : α → Bool) (f : α → Option β) : ∀ l : List α, (l.filter p).filterMap f = l.filterMap fun x => if p x = true then f x else none
  | [] => rfl
  | x :: l => by
    have ih := fm_filter p f l
    rw [List.filter_cons]
    by_cases h : p x = true
    · rw [if_pos h, List.filterMap_cons, List.filterMap_cons, if_pos h, ih]
    · rw [if_neg h, List.filterMap_cons, if_neg h, ih]
theorem fm_congr {α β : Type} {f g : α → Option β} : ∀ {l : List α}, (∀ x ∈ l, f x = g x) → l.filterMap f = l.filterMap g
  | [], _ => rfl
  | x :: l, h => by
    rw [List.filterMap_cons, List.filterMap_cons, h x List.mem_cons_self, fm_congr fun y hy => h y (List.mem_cons_of_mem _ hy)]
/-- what the comprehension of the moves picks -/
def lowF (r : List (Option Nat)) (q : Nat) : PD → Option PD := fun d => match d with
  | .tuple [.int k, .int u] => if u = (q : Int) then (match r[k.toNat]? with
    | some (some n) => some (.tuple [.int (n : Nat), .int k])
    | _ => none) else none
  | _ => none
theorem low_held {t : List Nat} (c : Chart t) (r : List (Option Nat)) (q : Nat) : (enumD (chartL t)).filterMap (lowF r q) = (heldP t r q).map prI := by
  unfold heldP kids
  rw [enum_range, chart_len, fm_filter, List.filterMap_map, List.map_filterMap]
  refine fm_congr fun k hk => ?_
  have lk := List.mem_range.mp hk
  show lowF r q (.tuple [.int (k : Nat), ((chartL t)[k]?).getD .none]) = _
  by_cases h0 : 0 < k
  · obtain ⟨p, hp, lp, _, _⟩ := chart_look c h0 lk
    have ep := par_at hp
    have hc : (chartL t)[k]? = some (.int p) := by
      have := chart_at hp
      rwa [show k - 1 + 1 = k by omega] at this
    rw [hc]
    by_cases h : p = q
    · subst h
      cases e : r[k]? with
      | none => simp [lowF, e, h0, ep]
      | some x => cases x <;> simp [lowF, e, h0, ep, prI]
    · have h' : ¬ (p : Int) = q := by omega
      simp [lowF, h0, ep, h, h']
  · have e0 : k = 0 := by omega
    subst e0
    simp [lowF]
theorem heldP_same {t : List Nat} (c : Chart t) {r r' : List (Option Nat)} {q : Nat} (h : ∀ k, q < k → r[k]? = r'[k]?) : heldP t r q = heldP t r' q := by
  unfold heldP
  refine fm_congr fun k hk => ?_
  obtain ⟨_, _, l, _⟩ := kids_mem c hk (Nat.le_refl _)
  rw [h k l]
theorem dep_same {t : List Nat} (c : Chart t) : ∀ (f : Nat) {r r' : List (Option Nat)} {q : Nat}, (∀ k, q < k → r[k]? = r'[k]?) → (depF t f r q).2 = (depF t f r' q).2
  | 0, _, _, _, _ => rfl
  | f + 1, r, r', q, h => by
    have e := heldP_same c h
    have en : nxt t r q = nxt t r' q := by unfold nxt; rw [e]
    unfold depF
    rw [en]
    cases hn : nxt t r' q with
    | none => rfl
    | some k =>
      have lk : q < k := (nxt_some c hn).1
      dsimp only
      rw [h k lk, dep_same c f (r := r.set q (r'[k]?.join)) (r' := r'.set q (r'[k]?.join)) (q := k) fun i li => by
        rw [List.getElem?_set_ne (by omega), List.getElem?_set_ne (by omega)]
        exact h i (by omega)]
/-- the moves, told from the first row alone -/
theorem dep_next {t : List Nat} (c : Chart t) {f : Nat} {r : List (Option Nat)} {q k : Nat} (h : nxt t r q = some k) : (depF t (f + 1) r q).2 = .tuple [cellD (r[k]?.join), .int (k : Nat), .int (q : Nat)] :: (depF t f r k).2 := by
  have lk : q < k := (nxt_some c h).1
  show (match nxt t r q with | none => _ | some k => _ : List (Option Nat) × List PD).2 = _
  rw [h]
  dsimp only
  rw [dep_same c f (r' := r) fun i li => List.getElem?_set_ne (by omega)]
theorem cut_to (xs : List PD) (k : Nat) : cutD xs none (some (k : Int)) = xs.take k := by
  unfold cutD HT.sIx
  dsimp only
  rw [if_neg (by omega), Int.toNat_natCast, List.drop_zero, Nat.sub_zero]
  rcases Nat.le_total k xs.length with h | h
  · rw [Nat.min_eq_left h]
  · rw [Nat.min_eq_right h, List.take_of_length_le (Nat.le_refl _), List.take_of_length_le h]
theorem cut_from (xs : List PD) (k : Nat) : cutD xs (some (k : Int)) none = xs.drop k := by
  unfold cutD HT.sIx
  dsimp only
  rw [if_neg (by omega), Int.toNat_natCast]
  rcases Nat.le_total k xs.length with h | h
  · rw [Nat.min_eq_left h, List.take_of_length_le (by rw [List.length_drop]; omega)]
  · rw [Nat.min_eq_right h, List.drop_of_length_le h, List.drop_of_length_le (Nat.le_refl _), List.take_nil]
theorem cut_1 (xs : List PD) : cutD xs none (some 1) = xs.take 1 := cut_to xs 1
theorem sort_none : fSortedU [.list []] = some (.new []) := rfl
theorem sort_pairs (z : Int × Int) (l : List (Int × Int)) : fSortedU [.list ((z :: l).map prI)] = some (.new ((sortP (z :: l)).map prI)) := by
  unfold fSortedU
  dsimp only
  rw [ints_pr, pairsOf_map]
  rfl
theorem w_moves {t : List Nat} {r : List (Option Nat)} (c : Chart t) (l : t.length < 1000) (lr : r.length = t.length + 1) {j n : Nat} (hj : r[j]? = some (some n)) (fj : ∀ m, m < j → r[m]? ≠ some (some n)) {xd : PD} (hx : Sq xd (rowL r)) : f_l_moves [.d (chartD t), .d xd, .d (.int n)] = some (.new (movesD t r j), []) := by
  have lj : j < t.length + 1 := by rw [← lr]; exact (List.getElem?_eq_some_iff.mp hj).1
  have hl : fList [xd] = some (.new (rowL r)) := by rcases hx with rfl | rfl <;> rfl
  refine ok_fn rfl (ok_seq ?_)
  simp [hl, row_idx hj fj, cell_flat]
  refine ok_seq ?_
  simp
  refine ok_seq (ok_while (m := t.length + 1) (fun f ρ => ∃ (pl : PD) (ms : List PD) (x5 x6 x7 : Sl), ρ = [.d (chartD t), .d xd, .d (.int n), .d pl, .own true ms, x5, x6, x7, .emp] ∧ ms.length + f ≤ t.length + 1 ∧ ((∃ (f' q : Nat), f = f' + 1 ∧ pl = .int q ∧ t.length ≤ q + f' ∧ q < t.length + 1 ∧ ms ++ (depF t f' r q).2 = movesD t r j) ∨ (pl = .none ∧ ms = movesD t r j)))
      ⟨_, [], .emp, .emp, .emp, rfl, by simp, .inl ⟨t.length, j, rfl, rfl, by omega, lj, rfl⟩⟩ (by omega) ?_)
  rintro f ρ ⟨pl, ms, x5, x6, x7, rfl, lm, h⟩
  rcases h with ⟨f, q, rfl, rfl, hf, lq, em⟩ | ⟨rfl, rfl⟩
  · refine ⟨true, [.d (chartD t), .d xd, .d (.int n), .d (.int q), .own true ms, x5, x6, x7, .emp], by simp, fun z => (by cases z), fun _ => ?_⟩
    have e1 := lc_eq (vs := [7, 8]) (it := itEnum (eVar 0)) (gv := gvTup 2 (gvsCons (gvName 7) (gvsCons (gvName 8) gvsNil))) (tv := tvAnd (tvB (eOp fEq (eVar 8) (eVar 3))) (tvB (eOp fNotN (eOp fIx (eVar 1) (eVar 7)) (eC .none)))) (e := eTup (aCons (eDat (eOp fIx (eVar 1) (eVar 7))) (aCons (eDat (eVar 7)) aNil))) (ρ := [.d (chartD t), .d xd, .d (.int n), .d (.int q), .own true ms, x5, x6, x7, .emp]) (ρ1 := [.d (chartD t), .d xd, .d (.int n), .d (.int q), .own true ms, x5, x6, x7, .emp]) (ds := enumD (chartL t)) (lowF r q) (it_en (i := 0) (.inr rfl) rfl) (by rw [enum_len, chart_len]; omega) (fun k x hk => by
      have lk : k < t.length + 1 := by
        have := (List.getElem?_eq_some_iff.mp hk).1
        rwa [enum_len, chart_len] at this
      obtain ⟨d, hd, rfl⟩ := enum_at hk
      obtain ⟨cc, hc⟩ := row_has (r := r) (k := k) (by omega)
      have h1 := at_nat (row_at hc)
      by_cases h0 : 0 < k
      · obtain ⟨p, hp, lp, _, _⟩ := chart_look c h0 lk
        have hd2 : d = .int p := by
          have := chart_at hp
          rw [show k - 1 + 1 = k by omega, hd] at this
          exact Option.some.inj this
        subst hd2
        by_cases h : p = q
        · subst h
          cases cc <;> simp [hx.ix, h1, lowF, hc]
        · have h' : ¬ (p : Int) = q := by omega
          simp [lowF, h']
      · have e0 : k = 0 := by omega
        subst e0
        cases hd
        have e2 : fEq .none (.int (q : Int)) = some (.d (.bool false)) := eq_is rfl rfl rfl
        simp [lowF, e2])
    rw [low_held c] at e1
    have hlen := heldP_len t r q
    refine ok_seq (ok_run (fl := .next) (ρ' := [.d (chartD t), .d xd, .d (.int n), .d (.int q), .own true ms, .own true ((heldP t r q).map prI), x6, x7, .emp]) (by simp [-eLc_eq, e1]) ?_)
    have lm5 : ms.length < 100000 := by omega
    cases eh : heldP t r q with
    | nil =>
      have en : nxt t r q = none := by unfold nxt; rw [eh]
      have ed : (depF t f r q).2 = [] := by
        cases f with
        | zero => rfl
        | succ f => unfold depF; rw [en]
      rw [ed, List.append_nil] at em
      refine ok_seq (ok_run (fl := .next) (ρ' := [.d (chartD t), .d xd, .d (.int n), .d (.int q), .own true ms, .own true [], x6, x7, .emp]) (by simp [sort_none, sFor_eq, cutD, forL]) ?_)
      exact ok_run (fl := .next) (ρ' := [.d (chartD t), .d xd, .d (.int n), .d .none, .own true ms, .own true [], x6, x7, .emp]) (by simp [sort_none]) ⟨f, Nat.lt_succ_self _, .none, ms, _, _, _, rfl, by omega, .inr ⟨rfl, em⟩⟩
    | cons z ls =>
      obtain ⟨l', el⟩ := sortP_head z ls
      have es := sort_pairs z ls
      rw [el] at es
      obtain ⟨k, m, ez, hk, hm⟩ := held_mem (t := t) (r := r) (q := q) (z := minP z ls) (by rw [eh]; exact min_mem z ls)
      have en : nxt t r q = some k := by
        unfold nxt
        rw [eh]
        dsimp only
        rw [ez]
        rfl
      obtain ⟨qk, lk, tk, _, _⟩ := nxt_some c en
      obtain ⟨f, rfl⟩ : ∃ f', f = f' + 1 := ⟨f - 1, by omega⟩
      rw [dep_next c en, hm] at em
      rw [ez] at es
      replace es : fSortedU [.list (prI z :: ls.map prI)] = some (.new (.tuple [.int m, .int k] :: l'.map prI)) := es
      have hle : l'.length ≤ 99998 := by
        have := (sortP_perm (z :: ls)).length_eq
        rw [el, List.length_cons, ← eh] at this
        omega
      refine ok_seq (ok_run (fl := .next) (ρ' := [.d (chartD t), .d xd, .d (.int n), .d (.int q), .own true (ms ++ [.tuple [.int m, .int k, .int q]]), .own true ((z :: ls).map prI), .d (.int m), .d (.int k), .emp]) (by simp [es, sFor_eq, cut_1, forL, lm5]) ?_)
      exact ok_run (fl := .next) (ρ' := [.d (chartD t), .d xd, .d (.int n), .d (.int k), .own true (ms ++ [.tuple [.int m, .int k, .int q]]), .own true ((z :: ls).map prI), .d (.int m), .d (.int k), .emp]) (by simp [es, hle]) ⟨f + 1, Nat.lt_succ_self _, .int k, _, _, _, _, rfl, by rw [List.length_append, List.length_singleton]; omega, .inl ⟨f, k, rfl, rfl, by omega, lk, by rw [List.append_assoc]; exact em⟩⟩
  · refine ⟨false, [.d (chartD t), .d xd, .d (.int n), .d .none, .own true (movesD t r j), x5, x6, x7, .emp], by simp, fun _ => ?_, fun z => (by cases z)⟩
    simp

end MU

namespace MU
open PySem PySem.Spec L2
def b_require_remaining : Sv :=
  (sSeq (sExpr (eCall f_require_arrangement (xR (eVar 0) (xR (eVar 1) xNil))))
  (sSeq (sExpr (eCall f_require_people (xR (eVar 1) (xR (eVar 2) xNil))))
  (sIf (tvOr (tvNot (tvB (eCall f_is_holder (xR (eVar 1) (xR (eVar 3) xNil))))) (tvB (eOp (fIn false) (eVar 3) (eVar 2)))) sNever sNext)))
def f_require_remaining : Fn := fnOf 4 4 b_require_remaining
def b_post_after : Sv :=
  (sSeq (sExpr (eCall f_require_remaining (xR (eVar 0) (xR (eVar 1) (xR (eVar 2) (xR (eVar 3) xNil))))))
  (sRet (eIndex (eCall f_after_departures (xR (eVar 0) (xR (eVar 1) (xR (eVar 2) xNil)))) (eVar 3))))
def f_post_after : Fn := fnOf 4 4 b_post_after
def b_career : Sv :=
  (sSeq (sExpr (eCall f_require_remaining (xR (eVar 0) (xR (eVar 1) (xR (eVar 2) (xR (eVar 3) xNil))))))
  (sSeq (sSet 4 (eCall f_posts_under (xR (eVar 0) xNil)))
  (sSeq (sSet 5 (eCb fList (aCons (eRd (eVar 1)) aNil)))
  (sSeq (sSet 6 (eLst (aCons (eDat (eIndexO 5 (eVar 3))) aNil)))
  (sSeq (sFor (itSeq (eVar 2)) (gvName 7) (sSeq (sExpr (eCall f_depart (xR (eVar 4) (xM (eVar 5) (xR (eVar 7) xNil)))))
  (sAppend 6 (eIndexO 5 (eVar 3)))))
  (sRet (eVar 6)))))))
def f_career : Fn := fnOf 8 4 b_career
theorem moves_len (t : List Nat) : ∀ (f : Nat) (r : List (Option Nat)) (q : Nat), (depF t f r q).2.length ≤ f
  | 0, _, _ => Nat.le_refl _
  | f + 1, r, q => by
    unfold depF
    split
    · exact Nat.zero_le _
    · rw [List.length_cons]
      exact Nat.succ_le_succ (moves_len t f _ _)
theorem w_left {t : List Nat} {r : List (Option Nat)} (c : Chart t) (l : t.length < 1000) (lr : r.length = t.length + 1) {j n : Nat} (hj : r[j]? = some (some n)) (fj : ∀ m, m < j → r[m]? ≠ some (some n)) {xd : PD} (hx : Sq xd (rowL r)) : f_l_left [.d (chartD t), .d xd, .d (.int n)] = some (.d (rowD (leftL t r j)), []) := by
  have lj : j < r.length := (List.getElem?_eq_some_iff.mp hj).1
  have hl : fList [xd] = some (.new (rowL r)) := by rcases hx with rfl | rfl <;> rfl
  refine ok_fn rfl (ok_seq (ok_run (fl := .next) (ρ' := [.d (chartD t), .d xd, .d (.int n), .own true (movesD t r j), .emp, .emp, .emp, .emp]) (by simp [w_moves c l lr hj fj hx]) ?_))
  refine ok_seq (ok_run (fl := .next) (ρ' := [.d (chartD t), .d xd, .d (.int n), .own true (movesD t r j), .own true (rowL r), .emp, .emp, .emp]) (by simp [hl]) ?_)
  refine ok_seq (ok_run (fl := .next) (ρ' := [.d (chartD t), .d xd, .d (.int n), .own true (movesD t r j), .own true (rowL (r.set j none)), .emp, .emp, .emp]) (by simp [row_idx hj fj, cell_flat, ixN_nat lj, row_put]) ?_)
  refine ok_seq (ok_for (ρ1 := [.d (chartD t), .d xd, .d (.int n), .d (.list (movesD t r j)), .own true (rowL (r.set j none)), .emp, .emp, .emp]) (ds := movesD t r j) (by simp) (fun i ρ => ∃ (f : Nat) (r' : List (Option Nat)) (q : Nat) (x5 x6 x7 : Sl), t.length ≤ q + f ∧ q < t.length + 1 ∧ r'.length = t.length + 1 ∧ (depF t f r' q).1 = leftL t r j ∧ (depF t f r' q).2 = (movesD t r j).drop i ∧ ρ = [.d (chartD t), .d xd, .d (.int n), .d (.list (movesD t r j)), .own true (rowL (r'.set q none)), x5, x6, x7]) ⟨t.length, r, j, _, _, _, by omega, by omega, lr, rfl, rfl, rfl⟩ ?_ ?_)
  · rintro i x ρ hi ⟨f, r', q, x5, x6, x7, hf, lq, lr', e1, e2, rfl⟩
    obtain ⟨li, ei⟩ := List.getElem?_eq_some_iff.mp hi
    rw [List.drop_eq_getElem_cons li, ei] at e2
    cases f with
    | zero => cases e2
    | succ f =>
      cases cn : nxt t r' q with
      | none =>
        have e0 : depF t (f + 1) r' q = (r'.set q none, []) := by unfold depF; rw [cn]
        rw [e0] at e2
        cases e2
      | some k =>
        obtain ⟨qk, lk, tk, ⟨m, hm⟩, en⟩ := nxt_some c cn
        have ej : r'[k]?.join = some m := by rw [hm]; rfl
        have e0 : depF t (f + 1) r' q = ((depF t f (r'.set q (some m)) k).1, .tuple [.int (m : Nat), .int (k : Nat), .int (q : Nat)] :: (depF t f (r'.set q (some m)) k).2) := by
          show (match nxt t r' q with | none => _ | some k => _) = _
          rw [cn]
          dsimp only
          rw [ej]
          rfl
        rw [e0] at e1 e2
        obtain ⟨e3, e4⟩ := List.cons.inj e2
        subst e3
        have l1 : q < r'.length := by omega
        have l2 : k < r'.length := by omega
        refine ⟨[.d (chartD t), .d xd, .d (.int n), .d (.list (movesD t r j)), .own true (rowL (r'.set q none)), .d (.int m), .d (.int k), .d (.int q)], by simp, ok_run (fl := .next) (ρ' := [.d (chartD t), .d xd, .d (.int n), .d (.list (movesD t r j)), .own true (rowL ((r'.set q (some m)).set k none)), .d (.int m), .d (.int k), .d (.int q)]) ?_ ⟨f, r'.set q (some m), k, _, _, _, by omega, lk, by rw [List.length_set]; exact lr', e1, e4, rfl⟩⟩
        have e5 : (rowL ((r'.set q (some m)).set k none)) = (((rowL (r'.set q none)).set q (.int m)).set k .none) := by
          rw [row_put, row_put, row_put, List.set_set]
          rfl
        rw [e5]
        simp [sSeq_eq, ixN_nat l1, ixN_nat l2]
  · rintro ρ ⟨f, r', q, x5, x6, x7, hf, lq, lr', e1, e2, rfl⟩
    rw [List.drop_length] at e2
    have e3 : r'.set q none = leftL t r j := by
      cases f with
      | zero => exact e1
      | succ f =>
        cases cn : nxt t r' q with
        | none =>
          have e0 : depF t (f + 1) r' q = (r'.set q none, []) := by unfold depF; rw [cn]
          rw [e0] at e1
          exact e1
        | some k =>
          rw [dep_next c cn] at e2
          cases e2
    simp [e3, rowD]
/-- people who may leave while n remains -/
structure LeaveOk (t : List Nat) (r : List (Option Nat)) (ls : List Nat) (n : Nat) : Prop where
  arr : Arr t r
  mem : ∀ m ∈ ls, some m ∈ r
  nd : ls.Nodup
  me : some n ∈ r
  out : n ∉ ls
theorem LeaveOk.step {t : List Nat} {r : List (Option Nat)} {p n : Nat} {ls : List Nat} (c : Chart t) (h : LeaveOk t r (p :: ls) n) : LeaveOk t (leftL t r (idxOf r p)) ls n := by
  obtain ⟨j, hj, fj⟩ := idx_at (h.mem p List.mem_cons_self)
  rw [idx_eq hj fj]
  have lm := left_mem c h.arr hj
  have lj : j < t.length + 1 := by rw [← h.arr.len]; exact (List.getElem?_eq_some_iff.mp hj).1
  refine ⟨left_arr c h.arr lj, fun m hm => (lm m).mpr ⟨h.mem m (List.mem_cons_of_mem _ hm), fun z => ?_⟩, (List.nodup_cons.mp h.nd).2, (lm n).mpr ⟨h.me, fun z => h.out (z ▸ List.mem_cons_self)⟩, fun z => h.out (List.mem_cons_of_mem _ z)⟩
  subst z
  exact (List.nodup_cons.mp h.nd).1 hm
theorem LeaveOk.all {t : List Nat} {n : Nat} (c : Chart t) : ∀ {ls : List Nat} {r : List (Option Nat)}, LeaveOk t r ls n → LeaveOk t (allLeft t r ls) [] n
  | [], _, h => h
  | p :: ls, r, h => (h.step c).all c
theorem row_idx2 {r : List (Option Nat)} {n : Nat} (h : some n ∈ r) : idxD (.int n) (rowL r) 0 = some (idxOf r n) := by
  obtain ⟨j, hj, fj⟩ := idx_at h
  rw [idx_eq hj fj]
  exact row_idx hj fj
theorem idx_lt {r : List (Option Nat)} {n : Nat} (h : some n ∈ r) : idxOf r n < r.length := by
  obtain ⟨j, hj, fj⟩ := idx_at h
  rw [idx_eq hj fj]
  exact (List.getElem?_eq_some_iff.mp hj).1
theorem w_left2 {t : List Nat} {r : List (Option Nat)} (c : Chart t) (l : t.length < 1000) (a : Arr t r) {n : Nat} (h : some n ∈ r) {xd : PD} (hx : Sq xd (rowL r)) : f_l_left [.d (chartD t), .d xd, .d (.int n)] = some (.d (rowD (leftL t r (idxOf r n))), []) := by
  obtain ⟨j, hj, fj⟩ := idx_at h
  rw [idx_eq hj fj]
  exact w_left c l a.len hj fj hx
theorem w_depart2 {t : List Nat} {r : List (Option Nat)} (c : Chart t) (l : t.length < 1000) (a : Arr t r) {n : Nat} (h : some n ∈ r) : f_depart [.d (underD t), .m (rowL r), .d (.int n)] = some (.new (movesD t r (idxOf r n)), [rowL (leftL t r (idxOf r n))]) := by
  obtain ⟨j, hj, fj⟩ := idx_at h
  rw [idx_eq hj fj]
  exact w_depart c l a.len hj fj
/-- the posts of n while people leave -/
def carL (t : List Nat) (n : Nat) : List (Option Nat) → List Nat → List Nat
  | r, [] => [idxOf r n]
  | r, p :: ls => idxOf r n :: carL t n (leftL t r (idxOf r p)) ls
theorem car_len (t : List Nat) (n : Nat) : ∀ (ls : List Nat) (r : List (Option Nat)), (carL t n r ls).length = ls.length + 1
  | [], _ => rfl
  | p :: ls, r => congrArg (· + 1) (car_len t n ls _)
theorem car_last (t : List Nat) (n : Nat) : ∀ (ls : List Nat) (r : List (Option Nat)), (carL t n r ls).getLast? = some (idxOf (allLeft t r ls) n)
  | [], _ => rfl
  | p :: ls, r => by
    have h := car_last t n ls (leftL t r (idxOf r p))
    show (idxOf r n :: carL t n _ ls).getLast? = _
    cases e : carL t n (leftL t r (idxOf r p)) ls with
    | nil => rw [e] at h; cases h
    | cons x l => rw [List.getLast?_cons_cons, ← e]; exact h
theorem car_lt {t : List Nat} {n : Nat} (c : Chart t) : ∀ {ls : List Nat} {r : List (Option Nat)}, LeaveOk t r ls n → ∀ x ∈ carL t n r ls, x < t.length + 1
  | [], r, h, x, hx => by
    have e : x = idxOf r n := by simpa [carL] using hx
    rw [e, ← h.arr.len]
    exact idx_lt h.me
  | p :: ls, r, h, x, hx => by
    rcases List.mem_cons.mp hx with e | hx
    · rw [e, ← h.arr.len]
      exact idx_lt h.me
    · exact car_lt c (h.step c) x hx
theorem w_all_left {t : List Nat} (c : Chart t) (l : t.length < 1000) : ∀ {ls : List Nat} {r : List (Option Nat)}, Arr t r → (∀ m ∈ ls, some m ∈ r) → ls.Nodup → ls.length ≤ 2000 → f_l_all_left [.d (chartD t), .d (rowD r), .d (.list (intsD ls))] = some (.d (rowD (allLeft t r ls)), []) := by
  intro ls r a hm nd ll
  refine ok_fn rfl (ok_seq (ok_for (ρ1 := [.d (chartD t), .d (rowD r), .d (.list (intsD ls)), .emp]) (ds := intsD ls) (by simp) (fun i ρ => ∃ (r' : List (Option Nat)) (x : Sl), Arr t r' ∧ (∀ m ∈ ls.drop i, some m ∈ r') ∧ allLeft t r' (ls.drop i) = allLeft t r ls ∧ ρ = [.d (chartD t), .d (rowD r'), .d (.list (intsD ls)), x]) ⟨r, .emp, a, hm, rfl, rfl⟩ ?_ ?_))
  · rintro i x ρ hi ⟨r', y, ar, hm', e, rfl⟩
    obtain ⟨n, hn, rfl⟩ := ints_at hi
    have ed : ls.drop i = n :: ls.drop (i + 1) := by
      obtain ⟨li, e⟩ := List.getElem?_eq_some_iff.mp hn
      rw [List.drop_eq_getElem_cons li, e]
    have nd' : (ls.drop i).Nodup := nd.sublist (List.drop_sublist ..)
    rw [ed] at hm' e nd'
    have hmn := hm' n List.mem_cons_self
    obtain ⟨j, hj, fj⟩ := idx_at hmn
    have ej := idx_eq hj fj
    have lj : j < t.length + 1 := by rw [← ar.len]; exact (List.getElem?_eq_some_iff.mp hj).1
    refine ⟨_, rfl, ok_run (fl := .next) (ρ' := [.d (chartD t), .d (rowD (leftL t r' (idxOf r' n))), .d (.list (intsD ls)), .d (.int n)]) (by simp [w_left2 c l ar hmn (xd := rowD r') sq_row]) ⟨_, _, by rw [ej]; exact left_arr c ar lj, fun m h => ?_, e, rfl⟩⟩
    rw [ej]
    refine (left_mem c ar hj m).mpr ⟨hm' m (List.mem_cons_of_mem _ h), fun z => ?_⟩
    subst z
    exact (List.nodup_cons.mp nd').1 h
  · rintro ρ ⟨r', y, ar, hm', e, rfl⟩
    rw [ints_len, List.drop_length] at e
    simp [← e, allLeft]
theorem w_remaining {t : List Nat} {r : List (Option Nat)} (c : Chart t) (l : t.length < 1000) {ls : List Nat} {n : Nat} (h : LeaveOk t r ls n) (ll : ls.length ≤ 2000) : f_require_remaining [.d (chartD t), .d (rowD r), .d (.list (intsD ls)), .d (.int n)] = some (.d .none, []) := by
  refine ok_fn rfl ?_
  simp [b_require_remaining, sSeq_eq, w_require_arr c l h.arr, w_req_people ll h.mem h.nd, w_holder, h.me, h.out]
theorem w_post_after {t : List Nat} {r : List (Option Nat)} (c : Chart t) (l : t.length < 1000) {ls : List Nat} {n : Nat} (h : LeaveOk t r ls n) (ll : ls.length ≤ 2000) : f_post_after [.d (chartD t), .d (rowD r), .d (.list (intsD ls)), .d (.int n)] = some (.d (.int (idxOf (allLeft t r ls) n)), []) := by
  refine ok_fn rfl ?_
  simp [b_post_after, sSeq_eq, w_remaining c l h ll, w_after (rd := rowD r) c l h.arr.len (leave1_of c ls r h.arr h.mem h.nd).1 sq_row sq_l, row_idx2 (h.all c).me, cell_flat]
theorem w_career {t : List Nat} {r : List (Option Nat)} (c : Chart t) (l : t.length < 1000) {ls : List Nat} {n : Nat} (h : LeaveOk t r ls n) (ll : ls.length ≤ 2000) : f_career [.d (chartD t), .d (rowD r), .d (.list (intsD ls)), .d (.int n)] = some (.new (intsD (carL t n r ls)), []) := by
  have hl : fList [rowD r] = some (.new (rowL r)) := rfl
  refine ok_fn rfl (ok_seq (ok_run (fl := .next) (ρ' := [.d (chartD t), .d (rowD r), .d (.list (intsD ls)), .d (.int n), .emp, .emp, .emp, .emp]) (by simp [w_remaining c l h ll]) ?_))
  refine ok_seq (ok_run (fl := .next) (ρ' := [.d (chartD t), .d (rowD r), .d (.list (intsD ls)), .d (.int n), .d (underD t), .emp, .emp, .emp]) (by simp [w_under c l]) ?_)
  refine ok_seq (ok_run (fl := .next) (ρ' := [.d (chartD t), .d (rowD r), .d (.list (intsD ls)), .d (.int n), .d (underD t), .own true (rowL r), .emp, .emp]) (by simp [hl]) ?_)
  refine ok_seq (ok_run (fl := .next) (ρ' := [.d (chartD t), .d (rowD r), .d (.list (intsD ls)), .d (.int n), .d (underD t), .own true (rowL r), .own true (intsD [idxOf r n]), .emp]) (by simp [row_idx2 h.me, cell_flat]) ?_)
  refine ok_seq (ok_for (ρ1 := [.d (chartD t), .d (rowD r), .d (.list (intsD ls)), .d (.int n), .d (underD t), .own true (rowL r), .own true (intsD [idxOf r n]), .emp]) (ds := intsD ls) (by simp) (fun i ρ => ∃ (r' : List (Option Nat)) (ps : List Nat) (x : Sl), LeaveOk t r' (ls.drop i) n ∧ ps.length = i ∧ ps ++ carL t n r' (ls.drop i) = carL t n r ls ∧ ρ = [.d (chartD t), .d (rowD r), .d (.list (intsD ls)), .d (.int n), .d (underD t), .own true (rowL r'), .own true (intsD (ps ++ [idxOf r' n])), x]) ⟨r, [], .emp, h, rfl, rfl, rfl⟩ ?_ ?_)
  · rintro i x ρ hi ⟨r', ps, y, h', lp, e, rfl⟩
    obtain ⟨p, hp, rfl⟩ := ints_at hi
    obtain ⟨li, e0⟩ := List.getElem?_eq_some_iff.mp hp
    have ed : ls.drop i = p :: ls.drop (i + 1) := by rw [List.drop_eq_getElem_cons li, e0]
    rw [ed] at h' e
    have h2 := h'.step c
    have l5 : ps.length + 1 < 100000 := by omega
    refine ⟨_, rfl, ok_run (fl := .next) (ρ' := [.d (chartD t), .d (rowD r), .d (.list (intsD ls)), .d (.int n), .d (underD t), .own true (rowL (leftL t r' (idxOf r' p))), .own true (intsD (ps ++ [idxOf r' n] ++ [idxOf (leftL t r' (idxOf r' p)) n])), .d (.int p)]) (by simp [sSeq_eq, w_depart2 c l h'.arr (h'.mem p List.mem_cons_self), row_idx2 h2.me, cell_flat, l5]) ⟨_, _, _, h2, by simp [lp], ?_, rfl⟩⟩
    rw [List.append_assoc]
    exact e
  · rintro ρ ⟨r', ps, y, h', lp, e, rfl⟩
    rw [ints_len, List.drop_length] at e
    simp [← e, carL]

end MU

namespace MU
open PySem PySem.Spec L2
/-! ## joining -/
def entF (t : List Nat) : Nat → List (Option Nat) → Nat → Nat → List (Option Nat)
  | 0, s, n, q => s.set q (some n)
  | f + 1, s, n, q => if q = 0 then s.set q (some n) else match s[par t q]? with
    | some (some h) => if n < h then entF t f (s.set q (some h)) n (par t q) else s.set q (some n)
    | _ => s.set q (some n)
def joinL (t : List Nat) (r : List (Option Nat)) (n j : Nat) : List (Option Nat) := entF t t.length r n j
/-- n is joining r at j; in s the post q is left out -/
structure Hole (t : List Nat) (r : List (Option Nat)) (j n : Nat) (s : List (Option Nat)) (q : Nat) : Prop where
  len : s.length = t.length + 1
  lt : q < t.length + 1
  inj : ∀ i i' m : Nat, i ≠ q → i' ≠ q → s[i]? = some (some m) → s[i']? = some (some m) → i = i'
  ord : ∀ k p m : Nat, t[k]? = some p → k + 1 ≠ q → p ≠ q → s[k + 1]? = some (some m) → ∃ m', s[p]? = some (some m') ∧ m' < m
  upr : q = 0 ∨ ∃ h, s[par t q]? = some (some h)
  kid : ∀ k m : Nat, t[k]? = some q → s[k + 1]? = some (some m) → n < m ∧ (q = 0 ∨ ∀ h, s[par t q]? = some (some h) → h < m)
  new : ∀ i, i ≠ q → s[i]? ≠ some (some n)
  mov : ∀ m j' : Nat, r[j']? = some (some m) → ∃ i, i ≠ q ∧ s[i]? = some (some m) ∧ j' ∈ way t i
  old : ∀ i m : Nat, i ≠ q → s[i]? = some (some m) → some m ∈ r
  off : ∀ i, i ∉ way t j → s[i]? = r[i]?
  on : q ∈ way t j
theorem hole_of {t : List Nat} {r : List (Option Nat)} {j n : Nat} (c : Chart t) (a : Arr t r) (lj : j < t.length + 1) (o : opn t r j = true) (hn : some n ∉ r) : Hole t r j n r j := by
  have hj : hold r j = false := by
    unfold opn at o
    cases h : hold r j with
    | false => rfl
    | true => rw [h] at o; cases o
  have nj : ∀ {i m : Nat}, r[i]? = some (some m) → i ≠ j := fun {i m} e z => by
    subst z
    rw [hold_at e] at hj
    cases hj
  refine ⟨a.len, lj, fun i i' m _ _ => a.inj i i' m, fun k p m hp _ _ => a.ord k p m hp, ?_, fun k m hp hk => ?_, fun i _ e => hn (List.mem_of_getElem? e), fun m j' e => ⟨j', nj e, e, way_self j'⟩, fun i m _ e => List.mem_of_getElem? e, fun i _ => rfl, way_self j⟩
  · by_cases h0 : j = 0
    · exact .inl h0
    · unfold opn at o
      rw [hj, decide_eq_false h0] at o
      exact .inr (hold_some (by simpa using o))
  · obtain ⟨m', hm', _⟩ := a.ord k j m hp hk
    exact absurd rfl (nj hm')
theorem hole_end {t : List Nat} {r s : List (Option Nat)} {j n q : Nat} (c : Chart t) (g : Hole t r j n s q) (h : q = 0 ∨ ∃ h, s[par t q]? = some (some h) ∧ h < n) : Arr t (s.set q (some n)) ∧ (∀ m, some m ∈ s.set q (some n) ↔ some m ∈ r ∨ m = n) ∧ Up t (s.set q (some n)) r ∧ ∀ i, i ∉ way t j → (s.set q (some n))[i]? = r[i]? := by
  have lq : q < s.length := by rw [g.len]; exact g.lt
  have self : (s.set q (some n))[q]? = some (some n) := List.getElem?_set_self lq
  have other : ∀ {i : Nat}, i ≠ q → (s.set q (some n))[i]? = s[i]? := fun z => List.getElem?_set_ne (Ne.symm z)
  refine ⟨⟨by rw [List.length_set]; exact g.len, fun i i' m h1 h2 => ?_, fun k p m hp hk => ?_⟩, fun m => ⟨fun hm => ?_, fun hm => ?_⟩, fun m j' e => ?_, fun i hi => ?_⟩
  · by_cases z : i = q <;> by_cases z' : i' = q
    · omega
    · subst z
      rw [self] at h1
      cases h1
      rw [other z'] at h2
      exact absurd h2 (g.new i' z')
    · subst z'
      rw [self] at h2
      cases h2
      rw [other z] at h1
      exact absurd h1 (g.new i z)
    · rw [other z] at h1
      rw [other z'] at h2
      exact g.inj i i' m z z' h1 h2
  · have lk : k < t.length := (List.getElem?_eq_some_iff.mp hp).1
    have lp := c k p hp
    by_cases z : k + 1 = q
    · subst z
      rw [self] at hk
      cases hk
      rcases h with h | ⟨h, e, l⟩
      · cases h
      · have ep : par t (k + 1) = p := par_at hp
        rw [ep] at e
        exact ⟨h, by rw [other (by omega)]; exact e, l⟩
    · rw [other z] at hk
      by_cases zp : p = q
      · subst zp
        exact ⟨n, self, (g.kid k m hp hk).1⟩
      · obtain ⟨m', e, l⟩ := g.ord k p m hp z zp hk
        exact ⟨m', by rw [other zp]; exact e, l⟩
  · obtain ⟨i, e⟩ := List.mem_iff_getElem?.mp hm
    by_cases z : i = q
    · subst z
      rw [self] at e
      cases e
      exact .inr rfl
    · rw [other z] at e
      exact .inl (g.old i m z e)
  · rcases hm with hm | rfl
    · obtain ⟨j', e⟩ := List.mem_iff_getElem?.mp hm
      obtain ⟨i, z, e2, _⟩ := g.mov m j' e
      exact List.mem_of_getElem? (i := i) (by rw [other z]; exact e2)
    · exact List.mem_of_getElem? self
  · obtain ⟨i, z, e2, w⟩ := g.mov m j' e
    exact ⟨i, by rw [other z]; exact e2, w⟩
  · have : i ≠ q := fun z => hi (z ▸ g.on)
    rw [other this]
    exact g.off i hi
theorem hole_step {t : List Nat} {r s : List (Option Nat)} {j n q h : Nat} (c : Chart t) (lj : j < t.length + 1) (g : Hole t r j n s q) (q0 : q ≠ 0) (hh : s[par t q]? = some (some h)) (l : n < h) : Hole t r j n (s.set q (some h)) (par t q) ∧ par t q < q := by
  obtain ⟨p, hp⟩ := chart_has (t := t) (j := q) (by omega) g.lt
  obtain ⟨ew, lp⟩ := way_step c (by omega) hp
  have ep := par_at hp
  rw [ep] at hh ⊢
  have lq : q < s.length := by rw [g.len]; exact g.lt
  have self : (s.set q (some h))[q]? = some (some h) := List.getElem?_set_self lq
  have other : ∀ {i : Nat}, i ≠ q → (s.set q (some h))[i]? = s[i]? := fun z => List.getElem?_set_ne (Ne.symm z)
  have pq : p ≠ q := by omega
  have lpt : p < t.length + 1 := by have := g.lt; omega
  refine ⟨⟨by rw [List.length_set]; exact g.len, lpt, fun i i' m zi zi' h1 h2 => ?_, fun k p2 m hp2 z1 z2 hk => ?_, ?_, fun k m hk hm => ?_, fun i zi e => ?_, fun m j' e => ?_, fun i m zi e => ?_, fun i hi => ?_, way_up c j lj p q (by rw [ew]; exact List.mem_append_left _ (way_self p)) g.on⟩, lp⟩
  · by_cases z : i = q <;> by_cases z' : i' = q
    · omega
    · subst z
      rw [self] at h1
      cases h1
      rw [other z'] at h2
      exact absurd (g.inj i' p h z' pq h2 hh) zi'
    · subst z'
      rw [self] at h2
      cases h2
      rw [other z] at h1
      exact absurd (g.inj i p h z pq h1 hh) zi
    · rw [other z] at h1
      rw [other z'] at h2
      exact g.inj i i' m z z' h1 h2
  · by_cases z : k + 1 = q
    · subst z
      have : t[k]? = some p := hp
      rw [this] at hp2
      cases hp2
      exact absurd rfl z2
    · rw [other z] at hk
      by_cases zp : p2 = q
      · subst zp
        refine ⟨h, self, ?_⟩
        rcases (g.kid k m hp2 hk).2 with w | w
        · exact absurd w q0
        · exact w h (by rw [ep]; exact hh)
      · obtain ⟨m', e, l⟩ := g.ord k p2 m hp2 z zp hk
        exact ⟨m', by rw [other zp]; exact e, l⟩
  · by_cases p0 : p = 0
    · exact .inl p0
    · obtain ⟨pp, hpp⟩ := chart_has (t := t) (j := p) (by omega) lpt
      obtain ⟨_, lpp⟩ := way_step c (by omega) hpp
      obtain ⟨m', e, _⟩ := g.ord (p - 1) pp h hpp (by omega) (by omega) (by rw [show p - 1 + 1 = p by omega]; exact hh)
      exact .inr ⟨m', by rw [par_at hpp, other (by omega)]; exact e⟩
  · have lk := (List.getElem?_eq_some_iff.mp hk).1
    have above : p = 0 ∨ ∀ h', (s.set q (some h))[par t p]? = some (some h') → h' < h := by
      by_cases p0 : p = 0
      · exact .inl p0
      · obtain ⟨pp, hpp⟩ := chart_has (t := t) (j := p) (by omega) lpt
        obtain ⟨_, lpp⟩ := way_step c (by omega) hpp
        obtain ⟨m', e, l2⟩ := g.ord (p - 1) pp h hpp (by omega) (by omega) (by rw [show p - 1 + 1 = p by omega]; exact hh)
        refine .inr fun h' e' => ?_
        rw [par_at hpp, other (by omega), e] at e'
        cases e'
        exact l2
    by_cases z : k + 1 = q
    · subst z
      rw [self] at hm
      cases hm
      exact ⟨l, above⟩
    · rw [other z] at hm
      obtain ⟨m', e, l2⟩ := g.ord k p m hk z pq hm
      rw [hh] at e
      cases e
      refine ⟨by omega, above.imp id fun w h' e' => ?_⟩
      have := w h' e'
      omega
  · by_cases z : i = q
    · subst z
      rw [self] at e
      cases e
      omega
    · rw [other z] at e
      exact g.new i z e
  · obtain ⟨i, zi, e2, w⟩ := g.mov m j' e
    by_cases z : i = p
    · subst z
      rw [hh] at e2
      cases e2
      exact ⟨q, by omega, self, by rw [ew]; exact List.mem_append_left _ w⟩
    · exact ⟨i, z, by rw [other zi]; exact e2, w⟩
  · by_cases z : i = q
    · subst z
      rw [self] at e
      cases e
      exact g.old p h pq hh
    · rw [other z] at e
      exact g.old i m z e
  · have : i ≠ q := fun z => hi (z ▸ g.on)
    rw [other this]
    exact g.off i hi
theorem ent_ok {t : List Nat} {r : List (Option Nat)} {j n : Nat} (c : Chart t) (lj : j < t.length + 1) : ∀ (f : Nat) (s : List (Option Nat)) (q : Nat), q ≤ f → Hole t r j n s q → Arr t (entF t f s n q) ∧ (∀ m, some m ∈ entF t f s n q ↔ some m ∈ r ∨ m = n) ∧ Up t (entF t f s n q) r ∧ ∀ i, i ∉ way t j → (entF t f s n q)[i]? = r[i]?
  | 0, s, q, l, g => hole_end c g (.inl (by omega))
  | f + 1, s, q, l, g => by
    unfold entF
    by_cases q0 : q = 0
    · rw [if_pos q0]
      exact hole_end c g (.inl q0)
    · rw [if_neg q0]
      rcases g.upr with z | ⟨h, hh⟩
      · exact absurd z q0
      rw [hh]
      dsimp only
      by_cases z : n < h
      · rw [if_pos z]
        obtain ⟨g2, l2⟩ := hole_step c lj g q0 hh z
        exact ent_ok c lj f _ _ (by omega) g2
      · rw [if_neg z]
        refine hole_end c g (.inr ⟨h, hh, ?_⟩)
        have : h ≠ n := fun e => by
          subst e
          obtain ⟨p, hp⟩ := chart_has (t := t) (j := q) (by omega) g.lt
          have lp := (way_step c (by omega) hp).2
          exact g.new (par t q) (by rw [par_at hp]; omega) hh
        omega
structure Joined (t : List Nat) (r : List (Option Nat)) (n j : Nat) (s : List (Option Nat)) : Prop where
  arr : Arr t s
  mem : ∀ m, some m ∈ s ↔ some m ∈ r ∨ m = n
  up : Up t s r
  off : ∀ i, i ∉ way t j → s[i]? = r[i]?
theorem join_ok {t : List Nat} {r : List (Option Nat)} {j n : Nat} (c : Chart t) (a : Arr t r) (lj : j < t.length + 1) (o : opn t r j = true) (hn : some n ∉ r) : Joined t r n j (joinL t r n j) := by
  obtain ⟨h1, h2, h3, h4⟩ := ent_ok c lj t.length r j (by omega) (hole_of c a lj o hn)
  exact ⟨h1, h2, h3, h4⟩
/-- who joins and leaves leaves things as they were -/
theorem join_left {t : List Nat} {r s : List (Option Nat)} {j n : Nat} (c : Chart t) (a : Arr t r) (hn : some n ∉ r) (g : Joined t r n j s) : leftL t s (idxOf s n) = r := by
  have hm : some n ∈ s := (g.mem n).mpr (.inr rfl)
  obtain ⟨i, hi, fi⟩ := idx_at hm
  rw [idx_eq hi fi]
  have li : i < t.length + 1 := by rw [← g.arr.len]; exact (List.getElem?_eq_some_iff.mp hi).1
  have lm := left_mem c g.arr hi
  refine up_unique c g.arr (left_arr c g.arr li) a (left_up c g.arr li) g.up fun m => ?_
  rw [lm, g.mem]
  constructor
  · rintro ⟨h | h, z⟩
    · exact h
    · exact absurd h z
  · intro h
    refine ⟨.inl h, fun z => ?_⟩
    subst z
    exact hn h
end MU

namespace MU
open PySem PySem.Spec L2
/-! ## joining, told from the head down -/
def jst (a : List (Option Nat) × Option Nat) (k : Nat) : List (Option Nat) × Option Nat := match a.2 with
  | some x => match a.1[k]? with
    | some (some v) => if x < v then (a.1.set k (some x), some v) else a
    | _ => (a.1.set k (some x), none)
  | none => a
def upW (t : List Nat) (q : Nat) : List Nat := if q = 0 then [] else way t (par t q)
theorem way_upW {t : List Nat} (c : Chart t) {q : Nat} (lq : q < t.length + 1) : way t q = upW t q ++ [q] := by
  unfold upW
  by_cases h : q = 0
  · subst h
    rw [way_zero]
    rfl
  · rw [if_neg h]
    obtain ⟨p, hp⟩ := chart_has (t := t) (j := q) (by omega) lq
    rw [(way_step c (by omega) hp).1, par_at hp]
theorem way_nodup {t : List Nat} (c : Chart t) {q : Nat} (lq : q < t.length + 1) : (way t q).Nodup := (way_sorted c q lq).imp fun {a b} h => by omega
theorem upW_lt {t : List Nat} (c : Chart t) {q : Nat} (lq : q < t.length + 1) {k : Nat} (h : k ∈ upW t q) : k < q := by
  have s := way_sorted c q lq
  rw [way_upW c lq] at s
  exact (List.pairwise_append.mp s).2.2 k h q (List.mem_singleton_self _)
theorem jst_get {a : List (Option Nat) × Option Nat} {k i : Nat} (h : i ≠ k) : (jst a k).1[i]? = a.1[i]? := by
  unfold jst
  split
  · split
    · split
      · exact List.getElem?_set_ne (Ne.symm h)
      · rfl
    · exact List.getElem?_set_ne (Ne.symm h)
  · rfl
theorem fold_get {i : Nat} : ∀ {l : List Nat} {a : List (Option Nat) × Option Nat}, i ∉ l → (l.foldl jst a).1[i]? = a.1[i]?
  | [], _, _ => rfl
  | k :: l, a, h => by
    rw [List.foldl_cons, fold_get (fun z => h (List.mem_cons_of_mem _ z)), jst_get (show i ≠ k from fun z => h (by rw [z]; exact List.mem_cons_self))]
theorem jst_len (a : List (Option Nat) × Option Nat) (k : Nat) : (jst a k).1.length = a.1.length := by
  unfold jst
  split
  · split
    · split
      · exact List.length_set ..
      · rfl
    · exact List.length_set ..
  · rfl
theorem fold_len : ∀ (l : List Nat) (a : List (Option Nat) × Option Nat), (l.foldl jst a).1.length = a.1.length
  | [], _ => rfl
  | k :: l, a => by rw [List.foldl_cons, fold_len, jst_len]
theorem jst_set {s : List (Option Nat)} {x : Option Nat} {k q : Nat} {y : Option Nat} (h : q ≠ k) : jst (s.set q y, x) k = ((jst (s, x) k).1.set q y, (jst (s, x) k).2) := by
  unfold jst
  dsimp only
  split
  · rw [List.getElem?_set_ne h]
    split
    · split
      · rw [List.set_comm _ _ h]
      · rfl
    · rw [List.set_comm _ _ h]
  · rfl
theorem fold_set {q : Nat} {y : Option Nat} : ∀ {l : List Nat} {s : List (Option Nat)} {x : Option Nat}, q ∉ l → l.foldl jst (s.set q y, x) = ((l.foldl jst (s, x)).1.set q y, (l.foldl jst (s, x)).2)
  | [], _, _, _ => rfl
  | k :: l, s, x, h => by
    rw [List.foldl_cons, List.foldl_cons, jst_set (show q ≠ k from fun z => h (by rw [z]; exact List.mem_cons_self))]
    exact fold_set fun z => h (List.mem_cons_of_mem _ z)
theorem fold_carry {hi : Nat} : ∀ {l : List Nat} {s : List (Option Nat)} {x : Nat}, l.Nodup → (∀ k ∈ l, ∃ v, s[k]? = some (some v) ∧ v < hi) → x < hi → ∃ x', (l.foldl jst (s, some x)).2 = some x' ∧ x' < hi
  | [], _, x, _, _, h => ⟨x, rfl, h⟩
  | k :: l, s, x, nd, hl, h => by
    obtain ⟨v, e, lv⟩ := hl k List.mem_cons_self
    obtain ⟨nk, nd⟩ := List.nodup_cons.mp nd
    rw [List.foldl_cons]
    by_cases z : x < v
    · have ej : jst (s, some x) k = (s.set k (some x), some v) := by
        unfold jst
        dsimp only
        rw [e]
        dsimp only
        rw [if_pos z]
      rw [ej]
      refine fold_carry nd (fun i hi => ?_) lv
      obtain ⟨v', e', l'⟩ := hl i (List.mem_cons_of_mem _ hi)
      exact ⟨v', by rw [List.getElem?_set_ne (show k ≠ i from fun q => nk (by rw [q]; exact hi))]; exact e', l'⟩
    · have ej : jst (s, some x) k = (s, some x) := by
        unfold jst
        dsimp only
        rw [e]
        dsimp only
        rw [if_neg z]
      rw [ej]
      exact fold_carry nd (fun i hi => hl i (List.mem_cons_of_mem _ hi)) h
theorem fold_stay : ∀ {l : List Nat} {s : List (Option Nat)} {x : Nat}, (∀ k ∈ l, ∃ v, s[k]? = some (some v) ∧ ¬ x < v) → l.foldl jst (s, some x) = (s, some x)
  | [], _, _, _ => rfl
  | k :: l, s, x, hl => by
    obtain ⟨v, e, lv⟩ := hl k List.mem_cons_self
    have ej : jst (s, some x) k = (s, some x) := by
      unfold jst
      dsimp only
      rw [e]
      dsimp only
      rw [if_neg lv]
    rw [List.foldl_cons, ej]
    exact fold_stay fun i hi => hl i (List.mem_cons_of_mem _ hi)
/-- both ways of joining lead to the same rows -/
theorem ent_fold {t : List Nat} {r : List (Option Nat)} {n : Nat} (c : Chart t) (a : Arr t r) : ∀ (f q : Nat) (s : List (Option Nat)), q ≤ f → q < t.length + 1 → (∀ i ∈ upW t q, s[i]? = r[i]?) → (q = 0 ∨ ∃ h, r[par t q]? = some (some h)) →
    entF t f s n q = ((upW t q).foldl jst (s, some n)).1.set q ((upW t q).foldl jst (s, some n)).2
  | 0, q, s, l, lq, hs, hq => by
    have : q = 0 := by omega
    subst this
    rfl
  | f + 1, q, s, l, lq, hs, hq => by
    unfold entF
    by_cases q0 : q = 0
    · rw [if_pos q0]
      subst q0
      rfl
    · rw [if_neg q0]
      rcases hq with z | ⟨h, hh⟩
      · exact absurd z q0
      obtain ⟨p, hp⟩ := chart_has (t := t) (j := q) (by omega) lq
      obtain ⟨ew, lp⟩ := way_step c (by omega) hp
      have ep := par_at hp
      have lpt : p < t.length + 1 := by omega
      have eu : upW t q = way t p := by unfold upW; rw [if_neg q0, ep]
      rw [eu] at hs ⊢
      rw [ep] at hh ⊢
      rw [hs p (way_self p), hh]
      dsimp only
      have hw : ∀ k ∈ way t p, ∃ v, r[k]? = some (some v) ∧ v ≤ h := fun k hk => heap_way c a p lpt h k hh hk
      have hu : ∀ k ∈ upW t p, ∃ v, s[k]? = some (some v) ∧ v < h := fun k hk => by
        have kw : k ∈ way t p := by rw [way_upW c lpt]; exact List.mem_append_left _ hk
        obtain ⟨v, e, lv⟩ := hw k kw
        refine ⟨v, by rw [hs k kw]; exact e, ?_⟩
        have : v ≠ h := fun z => by
          subst z
          have := a.inj k p v e hh
          have := upW_lt c lpt hk
          omega
        omega
      by_cases z : n < h
      · rw [if_pos z]
        have qn : q ∉ upW t p := fun w => by have := upW_lt c lpt w; omega
        have par0 : p = 0 ∨ ∃ h', r[par t p]? = some (some h') := by
          by_cases p0 : p = 0
          · exact .inl p0
          · obtain ⟨pp, hpp⟩ := chart_has (t := t) (j := p) (by omega) lpt
            obtain ⟨m', e, _⟩ := a.ord (p - 1) pp h hpp (by rw [show p - 1 + 1 = p by omega]; exact hh)
            exact .inr ⟨m', by rw [par_at hpp]; exact e⟩
        rw [ent_fold c a f p (s.set q (some h)) (by omega) lpt (fun i hi => by
          rw [List.getElem?_set_ne (by have := upW_lt c lpt hi; omega)]
          exact hs i (by rw [way_upW c lpt]; exact List.mem_append_left _ hi)) par0]
        rw [fold_set qn, way_upW c lpt, List.foldl_append, List.foldl_cons, List.foldl_nil]
        obtain ⟨x', e2, l2⟩ := fold_carry (hi := h) ((way_nodup c lpt).sublist (by rw [way_upW c lpt]; exact List.sublist_append_left _ _)) hu z
        have pn : p ∉ upW t p := fun w => by have := upW_lt c lpt w; omega
        have e3 : ((upW t p).foldl jst (s, some n)).1[p]? = some (some h) := by
          rw [fold_get pn]
          show s[p]? = _
          rw [hs p (way_self p), hh]
        generalize (upW t p).foldl jst (s, some n) = b at e2 e3
        have ej : jst b p = (b.1.set p (some x'), some h) := by
          unfold jst
          rw [e2]
          dsimp only
          rw [e3]
          dsimp only
          rw [if_pos l2]
        rw [ej, e2]
        dsimp only
        rw [List.set_comm _ _ (show q ≠ p by omega)]
      · rw [if_neg z, fold_stay fun k hk => ?_]
        obtain ⟨v, e, lv⟩ := hw k hk
        exact ⟨v, by rw [hs k hk]; exact e, by omega⟩
/-- the whole walk down -/
theorem join_fold {t : List Nat} {r : List (Option Nat)} {n j : Nat} (c : Chart t) (a : Arr t r) (lj : j < t.length + 1) (o : opn t r j = true) : ((way t j).foldl jst (r, some n)).1 = joinL t r n j := by
  have hj : r[j]? = some none := by
    obtain ⟨x, hx⟩ := row_has (r := r) (k := j) (by rw [a.len]; exact lj)
    unfold opn at o
    rw [hold_at hx] at o
    cases x with
    | none => exact hx
    | some m => cases o
  have hq : j = 0 ∨ ∃ h, r[par t j]? = some (some h) := by
    by_cases h0 : j = 0
    · exact .inl h0
    · unfold opn at o
      rw [hold_at hj, decide_eq_false h0] at o
      exact .inr (hold_some (by simpa using o))
  unfold joinL
  rw [ent_fold c a t.length j r (by omega) lj (fun i _ => rfl) hq, way_upW c lj, List.foldl_append, List.foldl_cons, List.foldl_nil]
  have jn : j ∉ upW t j := fun w => by have := upW_lt c lj w; omega
  have e3 : ((upW t j).foldl jst (r, some n)).1[j]? = some none := by rw [fold_get jn]; exact hj
  have e2 : ∃ x', ((upW t j).foldl jst (r, some n)).2 = some x' := by
    by_cases h0 : j = 0
    · subst h0
      exact ⟨n, rfl⟩
    · rcases hq with z | ⟨h, hh⟩
      · exact absurd z h0
      have lpt : par t j < t.length + 1 := by rw [← a.len]; exact (List.getElem?_eq_some_iff.mp hh).1
      have eu : upW t j = way t (par t j) := by unfold upW; rw [if_neg h0]
      rw [eu]
      obtain ⟨x', e, _⟩ := fold_carry (hi := n + h + 1) (way_nodup c lpt) (fun k hk => by
        obtain ⟨v, e, lv⟩ := heap_way c a _ lpt h k hh hk
        exact ⟨v, e, by omega⟩) (show n < n + h + 1 by omega)
      exact ⟨x', e⟩
  obtain ⟨x', e2⟩ := e2
  generalize (upW t j).foldl jst (r, some n) = b at e2 e3
  unfold jst
  rw [e2]
  dsimp only
  rw [e3]
/-- before the end somebody is carried -/
theorem join_carry {t : List Nat} {r : List (Option Nat)} {n j i : Nat} (c : Chart t) (a : Arr t r) (lj : j < t.length + 1) (o : opn t r j = true) (li : i < (way t j).length) : ∃ x, (((way t j).take i).foldl jst (r, some n)).2 = some x := by
  have hsub : ∀ k ∈ (way t j).take i, k ∈ upW t j := fun k hk => by
    rw [way_upW c lj] at li hk
    rw [List.length_append, List.length_singleton] at li
    rw [List.take_append_of_le_length (by omega)] at hk
    exact List.mem_of_mem_take hk
  by_cases h0 : j = 0
  · subst h0
    have e : (way t 0).take i = [] := by
      refine List.eq_nil_iff_forall_not_mem.mpr fun k hk => ?_
      have := hsub k hk
      exact nomatch this
    rw [e]
    exact ⟨n, rfl⟩
  · have hj : hold r (par t j) = true := by
      unfold opn at o
      cases h : hold r j with
      | true => rw [h] at o; cases o
      | false =>
        rw [h, decide_eq_false h0] at o
        simpa using o
    obtain ⟨h, hh⟩ := hold_some hj
    have lpt : par t j < t.length + 1 := by rw [← a.len]; exact (List.getElem?_eq_some_iff.mp hh).1
    have eu : upW t j = way t (par t j) := by unfold upW; rw [if_neg h0]
    obtain ⟨x', e, _⟩ := fold_carry (s := r) (x := n) (hi := n + h + 1) ((way_nodup c lj).sublist (List.take_sublist i _)) (fun k hk => by
      obtain ⟨v, e, lv⟩ := heap_way c a _ lpt h k hh (by rw [← eu]; exact hsub k hk)
      exact ⟨v, e, by omega⟩) (show n < n + h + 1 by omega)
    exact ⟨x', e⟩
end MU

namespace MU
open PySem PySem.Spec L2
def b_l_joined : Sv :=
  (sSeq (sSet 4 (eCb fList (aCons (eRd (eVar 1)) aNil)))
  (sSeq (sFor (itSeq (eCall f_l_way (xR (eVar 0) (xR (eVar 3) xNil)))) (gvName 5) (sIf (tvOr (tvB (eOp fIsN (eOp fIx (eVar 4) (eVar 5)) (eC .none))) (tvB (eOp (fI fun i j => decide (i < j)) (eVar 2) (eOp fIx (eVar 4) (eVar 5))))) (sAsg (gvTup 2 (gvsCons (gvName 2) (gvsCons (gvSub 4 (eVar 5)) gvsNil))) (eTup (aCons (eDat (eOp fIx (eVar 4) (eVar 5))) (aCons (eDat (eVar 2)) aNil)))) sNext))
  (sRet (eCb fTuple (aCons (eRd (eVar 4)) aNil)))))
def f_l_joined : Fn := fnOf 6 4 b_l_joined
def b_l_newcomers : Sv :=
  (sSeq (sSet 2 (eCall f_l_held (xR (eVar 1) xNil)))
  (sSeq (sSet 3 (eOp fAdd (eLst (aCons (eDat (eC (.int 0))) (aCons (eDat (eC (.int 1))) (aCons (eDat (eOp fSub (eOp fPow (eC (.int 10)) (eC (.int 18))) (eC (.int 1)))) (aCons (eDat (eCall f_l_random (xM (eVar 0) (xR (eOp fPow (eC (.int 10)) (eC (.int 18))) xNil)))) aNil))))) (eLc [4] (itSeq (eVar 2)) (gvName 4) tvYes (eOp fAdd (eVar 4) (eC (.int 1))))))
  (sRet (eLc [4] (itSeq (eVar 3)) (gvName 4) (tvAnd (tvB (eOp (fIn true) (eVar 4) (eVar 2))) (tvB (eOp (fI fun i j => decide (i < j)) (eVar 4) (eOp fPow (eC (.int 10)) (eC (.int 18)))))) (eVar 4)))))
def f_l_newcomers : Fn := fnOf 5 2 b_l_newcomers
theorem at_row {r : List (Option Nat)} {k : Nat} {c : Option Nat} (h : r[k]? = some c) : atI (rowL r) (k : Int) = some (cellD c) := at_nat (row_at h)
theorem w_enter {t : List Nat} {r : List (Option Nat)} (c : Chart t) (l : t.length < 1000) (a : Arr t r) {j n : Nat} (lj : j < t.length + 1) (o : opn t r j = true) (hn : some n ∉ r) : f_enter [.d (chartD t), .m (rowL r), .d (.int n), .d (.int j)] = some (.d .none, [rowL (joinL t r n j)]) := by
  have above : ∀ q, q < t.length + 1 → ∃ d, atI (chartL t) (q : Int) = some d ∧ (q = 0 → d = .none) ∧ (q ≠ 0 → d = .int (par t q)) := fun q lq => by
    by_cases q0 : q = 0
    · subst q0
      exact ⟨.none, by simp, fun _ => rfl, fun z => absurd rfl z⟩
    · obtain ⟨p, hp, lp, ha, _⟩ := chart_look c (z := q) (by omega) lq
      exact ⟨.int p, ha, fun z => absurd z q0, fun _ => by rw [par_at hp]⟩
  obtain ⟨d0, hd0, hz0, hs0⟩ := above j lj
  refine ok_fn rfl (ok_seq (ok_run (fl := .next) (ρ' := [.d (chartD t), .own false (rowL r), .d (.int n), .d (.int j), .d d0]) (by simp [hd0]) ?_))
  refine ok_seq (ok_while (m := t.length) (fun f ρ => ∃ (s : List (Option Nat)) (q : Nat) (d : PD), q ≤ f ∧ Hole t r j n s q ∧ entF t f s n q = joinL t r n j ∧ (q = 0 → d = .none) ∧ (q ≠ 0 → d = .int (par t q)) ∧ ρ = [.d (chartD t), .own false (rowL s), .d (.int n), .d (.int q), .d d]) ⟨r, j, d0, by omega, hole_of c a lj o hn, rfl, hz0, hs0, rfl⟩ (by omega) ?_)
  rintro f ρ ⟨s, q, d, lf, g, e, hz, hs, rfl⟩
  have lq : q < s.length := by rw [g.len]; exact g.lt
  by_cases q0 : q = 0
  · subst q0
    rw [hz rfl]
    have e1 : s.set 0 (some n) = joinL t r n j := by
      rw [← e]
      cases f <;> rfl
    refine ⟨false, _, by simp; rfl, fun _ => ?_, fun z => (by cases z)⟩
    have := ixN_nat lq
    simp only [Int.cast_ofNat_Int] at this
    simp [this, ← e1, row_set]
  · rw [hs q0]
    rcases g.upr with z | ⟨h, hh⟩
    · exact absurd z q0
    obtain ⟨f, rfl⟩ : ∃ f', f = f' + 1 := ⟨f - 1, by omega⟩
    have h1 := at_row hh
    have e2 : entF t (f + 1) s n q = if n < h then entF t f (s.set q (some h)) n (par t q) else s.set q (some n) := by
      show (if q = 0 then s.set q (some n) else match s[par t q]? with
        | some (some h) => if n < h then entF t f (s.set q (some h)) n (par t q) else s.set q (some n)
        | _ => s.set q (some n)) = _
      rw [if_neg q0, hh]
    rw [e2] at e
    by_cases z : n < h
    · rw [if_pos z] at e
      obtain ⟨g2, lp⟩ := hole_step c lj g q0 hh z
      obtain ⟨d2, hd2, hz2, hs2⟩ := above (par t q) g2.lt
      refine ⟨true, [.d (chartD t), .own false (rowL s), .d (.int n), .d (.int q), .d (.int (par t q))], by simp [h1, z], fun z => (by cases z), fun _ => ?_⟩
      exact ok_run (fl := .next) (ρ' := [.d (chartD t), .own false (rowL (s.set q (some h))), .d (.int n), .d (.int (par t q)), .d d2]) (by simp [sSeq_eq, h1, ixN_nat lq, hd2, row_set]) ⟨f, Nat.lt_succ_self _, _, _, d2, by omega, g2, e, hz2, hs2, rfl⟩
    · rw [if_neg z] at e
      refine ⟨false, [.d (chartD t), .own false (rowL s), .d (.int n), .d (.int q), .d (.int (par t q))], by simp [h1, z], fun _ => ?_, fun z => (by cases z)⟩
      simp [ixN_nat lq, ← e, row_set]
theorem w_after_joining {t : List Nat} {r : List (Option Nat)} (c : Chart t) (l : t.length < 1000) (a : Arr t r) {j n : Nat} (lj : j < t.length + 1) (o : opn t r j = true) (hn : some n ∉ r) : f_after_joining [.d (chartD t), .d (rowD r), .d (.int n), .d (.int j)] = some (.d (rowD (joinL t r n j)), []) := by
  have hl : fList [rowD r] = some (.new (rowL r)) := rfl
  have hr : ∀ s, PyData.tuple (rowL s) = rowD s := fun _ => rfl
  refine ok_fn rfl ?_
  simp [b_after_joining, sSeq_eq, hl, w_enter c l a lj o hn, hr]
theorem w_join {t : List Nat} {r : List (Option Nat)} (c : Chart t) (l : t.length < 1000) (a : Arr t r) {j n : Nat} (lj : j < t.length + 1) (o : opn t r j = true) (hn : some n ∉ r) : f_join [.d (chartD t), .d (rowD r), .d (.int n), .d (.int j)] = some (.d (rowD (joinL t r n j)), []) := by
  have h1 : (j : Int) < (t.length : Int) + 1 := by omega
  refine ok_fn rfl ?_
  simp [b_join, sSeq_eq, w_require_arr c l a, hn, h1, w_is_open c a.len lj (xd := rowD r) sq_row, o, w_after_joining c l a lj o hn]
theorem w_joined {t : List Nat} {r : List (Option Nat)} (c : Chart t) (l : t.length < 1000) (a : Arr t r) {j n : Nat} (lj : j < t.length + 1) (o : opn t r j = true) : f_l_joined [.d (chartD t), .d (rowD r), .d (.int n), .d (.int j)] = some (.d (rowD (joinL t r n j)), []) := by
  have hl : fList [rowD r] = some (.new (rowL r)) := rfl
  have hr : ∀ s, PyData.tuple (rowL s) = rowD s := fun _ => rfl
  refine ok_fn rfl (ok_seq (ok_run (fl := .next) (ρ' := [.d (chartD t), .d (rowD r), .d (.int n), .d (.int j), .own true (rowL r), .emp]) (by simp [hl]) ?_))
  refine ok_seq (ok_for (ρ1 := [.d (chartD t), .d (rowD r), .d (.int n), .d (.int j), .own true (rowL r), .emp]) (ds := intsD (way t j)) (by simp [w_way c l lj]) (fun i ρ => ∃ x, ρ = [.d (chartD t), .d (rowD r), .d (cellD (((way t j).take i).foldl jst (r, some n)).2), .d (.int j), .own true (rowL (((way t j).take i).foldl jst (r, some n)).1), x]) ⟨_, rfl⟩ ?_ ?_)
  · rintro i x ρ hi ⟨y, rfl⟩
    obtain ⟨k, hk, rfl⟩ := ints_at hi
    have li : i < (way t j).length := (List.getElem?_eq_some_iff.mp hi).1 |> fun h => by rwa [ints_len] at h
    obtain ⟨v, ev⟩ := join_carry (n := n) c a lj o li
    rw [take_more hk, List.foldl_append, List.foldl_cons, List.foldl_nil]
    have kn : k < t.length + 1 := by
      have := way_le c j lj k (List.mem_of_getElem? hk)
      omega
    have hb : (((way t j).take i).foldl jst (r, some n)).1.length = t.length + 1 := by rw [fold_len]; exact a.len
    generalize ((way t j).take i).foldl jst (r, some n) = b at ev hb
    obtain ⟨s, cx⟩ := b
    dsimp only at ev hb
    subst ev
    obtain ⟨z, hz⟩ := row_has (r := s) (k := k) (by omega)
    have h1 := at_row hz
    have lk : k < s.length := by omega
    refine ⟨[.d (chartD t), .d (rowD r), .d (cellD (some v)), .d (.int j), .own true (rowL s), .d (.int k)], by simp, ?_⟩
    cases z with
    | none =>
      have ej : jst (s, some v) k = (s.set k (some v), none) := by
        unfold jst
        dsimp only
        rw [hz]
      rw [ej]
      exact ok_run (fl := .next) (ρ' := [.d (chartD t), .d (rowD r), .d .none, .d (.int j), .own true (rowL (s.set k (some v))), .d (.int k)]) (by simp [h1, ixN_nat lk, row_set]) ⟨_, rfl⟩
    | some w =>
      by_cases q : v < w
      · have ej : jst (s, some v) k = (s.set k (some v), some w) := by
          unfold jst
          dsimp only
          rw [hz]
          dsimp only
          rw [if_pos q]
        rw [ej]
        exact ok_run (fl := .next) (ρ' := [.d (chartD t), .d (rowD r), .d (.int w), .d (.int j), .own true (rowL (s.set k (some v))), .d (.int k)]) (by simp [h1, ixN_nat lk, row_set, q]) ⟨_, rfl⟩
      · have ej : jst (s, some v) k = (s, some v) := by
          unfold jst
          dsimp only
          rw [hz]
          dsimp only
          rw [if_neg q]
        rw [ej]
        exact ok_run (fl := .next) (ρ' := [.d (chartD t), .d (rowD r), .d (.int v), .d (.int j), .own true (rowL s), .d (.int k)]) (by simp [h1, q]) ⟨_, rfl⟩
  · rintro ρ ⟨x, rfl⟩
    rw [ints_len, List.take_length, join_fold c a lj o]
    simp [hr]
theorem inc_ints (l : List Nat) : (intsD l).filterMap (fun d => match d with | .int z => some (PyData.int (z + 1)) | d => some d) = intsD (l.map (· + 1)) := by
  induction l with
  | nil => rfl
  | cons a l ih =>
    rw [ints_c, List.map_cons, ints_c, ← ih]
    rfl
theorem max_of (l : List Nat) (h : l ≠ []) : ∃ m ∈ l, ∀ x ∈ l, x ≤ m := by
  induction l with
  | nil => exact absurd rfl h
  | cons a l ih =>
    by_cases e : l = []
    · subst e
      exact ⟨a, List.mem_cons_self, fun x hx => by rw [List.mem_singleton] at hx; omega⟩
    · obtain ⟨m, hm, hx⟩ := ih e
      by_cases z : a ≤ m
      · exact ⟨m, List.mem_cons_of_mem _ hm, fun x h => by
          rcases List.mem_cons.mp h with h | h
          · omega
          · exact hx x h⟩
      · exact ⟨a, List.mem_cons_self, fun x h => by
          rcases List.mem_cons.mp h with h | h
          · omega
          · have := hx x h; omega⟩
theorem w_newcomers {r : List (Option Nat)} (lr : r.length ≤ 200) (top : ∀ m, some m ∈ r → m + 2 < 1000000000000000000) {n : Nat} {g : List PD} (hg : G n g) (hn : n + 3 ≤ 1000000000000) : ∃ (nl : List Nat) (g' : List PD), f_l_newcomers [.m g, .d (rowD r)] = some (.new (intsD nl), [g']) ∧ nl ≠ [] ∧ nl.length ≤ 300 ∧ (∀ x ∈ nl, some x ∉ r) ∧ G (n + 3) g' := by
  obtain ⟨q, g2, e2, l2, hg2⟩ := w_random hg (by omega) (b := 1000000000000000000) (by omega) (by omega)
  have hh := w_held (r := r) (by omega) (xd := rowD r) sq_row
  have hlen := heldL_len r
  have slen := sortN_len (heldL r)
  have hmem : ∀ x, x ∈ sortN (heldL r) ↔ some x ∈ r := fun x => sortN_mem.trans heldL_mem
  generalize sortN (heldL r) = hs at hh slen hmem
  have e1 := lc_eq (vs := [4]) (it := itSeq (eVar 2)) (gv := gvName 4) (tv := tvYes) (e := eOp fAdd (eVar 4) (eC (.int 1))) (ρ := [.own false g2, .d (rowD r), .own true (intsD hs), .emp, .emp]) (ρ1 := [.own false g2, .d (rowD r), .d (.list (intsD hs)), .emp, .emp]) (ds := intsD hs) (fun d => match d with | .int z => some (.int (z + 1)) | d => some d) (by simp) (by rw [ints_len]; omega) (fun k x hk => by
    obtain ⟨j, hj, rfl⟩ := ints_at hk
    simp)
  rw [inc_ints] at e1
  have l6 : 4 + hs.length ≤ 100000 := by omega
  have lo : ([0, 1, 999999999999999999, q] ++ hs.map (· + 1)).length ≤ 300 := by simp; omega
  have hin : ∃ x, x ∈ ([0, 1, 999999999999999999, q] ++ hs.map (· + 1)) ∧ x ∉ hs ∧ x < 1000000000000000000 := by
    by_cases e : hs = []
    · subst e
      exact ⟨0, by simp, by simp, by omega⟩
    · obtain ⟨m, hm, hx⟩ := max_of hs e
      have := top m ((hmem m).mp hm)
      exact ⟨m + 1, List.mem_append_right _ (List.mem_map.mpr ⟨m, hm, rfl⟩), fun z => by have := hx _ z; omega, by omega⟩
  refine ⟨([0, 1, 999999999999999999, q] ++ hs.map (· + 1)).filter fun x => !decide (x ∈ hs) && decide (x < 1000000000000000000), g2, ok_fn rfl (ok_seq (ok_run (fl := .next) (ρ' := [.own false g, .d (rowD r), .own true (intsD hs), .emp, .emp]) (by simp [hh]) (ok_seq (ok_run (fl := .next) (ρ' := [.own false g2, .d (rowD r), .d (.list (intsD hs)), .own true (intsD ([0, 1, 999999999999999999, q] ++ hs.map (· + 1))), .emp]) (by simp [-eLc_eq, pow_18, e2, e1, l6]) ?_)))), ?_, ?_, ?_, hg2⟩
  · generalize [0, 1, 999999999999999999, q] ++ hs.map (· + 1) = os at lo
    have e4 := lc_eq (vs := [4]) (it := itSeq (eVar 3)) (gv := gvName 4) (tv := tvAnd (tvB (eOp (fIn true) (eVar 4) (eVar 2))) (tvB (eOp (fI fun i j => decide (i < j)) (eVar 4) (eOp fPow (eC (.int 10)) (eC (.int 18)))))) (e := eVar 4) (ρ := [.own false g2, .d (rowD r), .d (.list (intsD hs)), .own true (intsD os), .emp]) (ρ1 := [.own false g2, .d (rowD r), .d (.list (intsD hs)), .d (.list (intsD os)), .emp]) (ds := intsD os) (selD fun x => !decide (x ∈ hs) && decide (x < 1000000000000000000)) (by simp) (by rw [ints_len]; omega) (fun k x hk => by
      obtain ⟨j, hj, rfl⟩ := ints_at hk
      rw [sel_at]
      by_cases h : j ∈ hs
      · simp [h, pow_18]
      · by_cases h2 : j < 1000000000000000000
        · have h3 : (j : Int) < 1000000000000000000 := by omega
          simp [h, h2, h3, pow_18]
        · have h3 : ¬ (j : Int) < 1000000000000000000 := by omega
          simp [h, h2, h3, pow_18])
    rw [sel_filter] at e4
    simp [-eLc_eq, e4]
  · obtain ⟨x, h1, h2, h3⟩ := hin
    intro z
    have : x ∈ ([0, 1, 999999999999999999, q] ++ hs.map (· + 1)).filter fun x => !decide (x ∈ hs) && decide (x < 1000000000000000000) := List.mem_filter.mpr ⟨h1, by rw [decide_eq_false h2, decide_eq_true h3]; rfl⟩
    rw [z] at this
    cases this
  · exact Nat.le_trans (List.length_filter_le ..) lo
  · intro x hx z
    obtain ⟨_, h⟩ := List.mem_filter.mp hx
    rw [decide_eq_true ((hmem x).mpr z)] at h
    cases h

end MU

namespace MU
open PySem PySem.Spec L2
structure Txt (d : PD) (e k : Nat) : Prop where
  sh : d.showable = true
  nd : d.hasDict = false
  dp : d.depth ≤ e
  ln : d.shown.length ≤ k
  ok : PyData.strOk d.shown = true
theorem Txt.mono {d : PD} {e k e' k' : Nat} (h : Txt d e k) (l : e ≤ e') (l2 : k ≤ k') : Txt d e' k' := ⟨h.sh, h.nd, Nat.le_trans h.dp l, Nat.le_trans h.ln l2, h.ok⟩
theorem txt_none : Txt .none 0 64 := ⟨rfl, rfl, Nat.le_refl _, by decide, strOk_of _⟩
theorem txt_int {n : Nat} (h : n < 2 ^ 62) : Txt (.int n) 0 64 := by
  refine ⟨decide_eq_true (int_show h), rfl, Nat.le_refl _, ?_, strOk_of _⟩
  show (Str.ofString (toString (n : Int))).length ≤ 64
  rw [ofString_length]
  refine Nat.le_trans (int_text_length_le (k := 63) (by decide) ?_) (by decide)
  rw [Int.natAbs_natCast]
  by_cases z : n = 0
  · subst z; decide
  · exact Nat.lt_trans ((Nat.log2_lt z).mpr h) (by decide)
theorem txt_all {e k : Nat} : ∀ {ds : List PD}, (∀ d ∈ ds, Txt d e k) → PyData.showableAll ds = true ∧ PyData.hasDictAll ds = false ∧ PyData.depthAll ds ≤ e ∧ ((PyData.shownAll ds).map (·.length)).sum ≤ k * ds.length ∧ (PyData.shownAll ds).length = ds.length ∧ ∀ t ∈ PyData.shownAll ds, PyData.strOk t = true
  | [], _ => ⟨rfl, rfl, Nat.zero_le _, Nat.zero_le _, rfl, fun t h => nomatch h⟩
  | d :: ds, h => by
    obtain ⟨h1, h2, h3, h4, h5, h6⟩ := txt_all fun x z => h x (List.mem_cons_of_mem _ z)
    have a := h d List.mem_cons_self
    refine ⟨?_, ?_, ?_, ?_, ?_, fun t ht => ?_⟩
    · show (d.showable && PyData.showableAll ds) = true
      rw [a.sh, h1]; rfl
    · show (d.hasDict || PyData.hasDictAll ds) = false
      rw [a.nd, h2]; rfl
    · show max d.depth (PyData.depthAll ds) ≤ e
      exact Nat.max_le.mpr ⟨a.dp, h3⟩
    · show d.shown.length + ((PyData.shownAll ds).map (·.length)).sum ≤ _
      rw [List.length_cons, Nat.mul_add]
      have := a.ln
      omega
    · show (d.shown :: PyData.shownAll ds).length = _
      rw [List.length_cons, h5, List.length_cons]
    · rcases List.mem_cons.mp (show t ∈ d.shown :: PyData.shownAll ds from ht) with z | z
      · rw [z]; exact a.ok
      · exact h6 t z
theorem strs_ok {s : Str} (hs : PyData.strOk s = true) : ∀ (ts : List Str), (∀ t ∈ ts, PyData.strOk t = true) → PyData.strOk (s.join ts) = true
  | [], _ => by
    rw [Str.join.eq_1]
    unfold PyData.strOk
    exact Array.all_eq_true'.mpr fun x h => absurd h (by simp [Str.empty])
  | [t], h => h t List.mem_cons_self
  | t :: u :: ts, h => by
    have := strs_ok hs (u :: ts) fun x z => h x (List.mem_cons_of_mem _ z)
    exact strOk_app (strOk_app (h t List.mem_cons_self) hs) this
theorem txt_tuple {e k n : Nat} {ds : List PD} (h : ∀ d ∈ ds, Txt d e k) (l : ds.length ≤ n) : Txt (.tuple ds) (e + 1) (k * n + 2 * n + 3) := by
  obtain ⟨h1, h2, h3, h4, h5, h6⟩ := txt_all h
  refine ⟨h1, h2, Nat.succ_le_succ h3, ?_, strOk_app (strOk_app (strOk_of _) (strs_ok (strOk_of _) _ h6)) (strOk_of _)⟩
  refine Nat.le_trans (tupleText_len_le (PyData.shownAll ds)) ?_
  rw [h5]
  have := Nat.mul_le_mul_left k l
  omega
theorem txt_list {e k n : Nat} {ds : List PD} (h : ∀ d ∈ ds, Txt d e k) (l : ds.length ≤ n) : Txt (.list ds) (e + 1) (k * n + 2 * n + 3) := by
  obtain ⟨h1, h2, h3, h4, h5, h6⟩ := txt_all h
  refine ⟨h1, h2, Nat.succ_le_succ h3, ?_, strOk_app (text_ok _ _ _ (strOk_of _) h6) (strOk_of _)⟩
  refine Nat.le_trans (listText_len_le (PyData.shownAll ds)) ?_
  rw [h5]
  have := Nat.mul_le_mul_left k l
  omega
theorem txt_row {r : List (Option Nat)} {n : Nat} (h : ∀ m, some m ∈ r → m < 2 ^ 62) (l : r.length ≤ n) : Txt (rowD r) 1 (64 * n + 2 * n + 3) := txt_tuple (fun d hd => by
  obtain ⟨c, hc, rfl⟩ := List.mem_map.mp hd
  cases c with
  | none => exact txt_none
  | some m => exact txt_int (h m hc)) (by rw [row_len]; exact l)
theorem txt_chart {t : List Nat} {n : Nat} (c : Chart t) (l2 : t.length < 1000) (l : t.length + 1 ≤ n) : Txt (chartD t) 1 (64 * n + 2 * n + 3) := txt_tuple (fun d hd => by
  rcases List.mem_cons.mp hd with z | z
  · rw [z]; exact txt_none
  · obtain ⟨p, hp, rfl⟩ := List.mem_map.mp z
    obtain ⟨k, hk⟩ := List.mem_iff_getElem?.mp hp
    have lp := c k p hk
    have lk := (List.getElem?_eq_some_iff.mp hk).1
    exact txt_int (by omega)) (by rw [chart_len]; exact l)
theorem repr_txt {d : PD} {e k : Nat} (h : Txt d e k) (l : e ≤ 60 := by decide) (l2 : k ≤ 100000 := by omega) : fRepr [d] = some (.d (.str d.shown)) := by
  unfold fRepr
  dsimp only
  rw [if_pos ⟨h.sh, h.nd, Nat.le_trans h.dp l, Nat.le_trans h.ln (Nat.le_trans l2 (by decide))⟩]
theorem Txt.shp {d : PD} {e k : Nat} (h : Txt d e k) : SeqAt.shaped (.str d.shown) = true := shp_ok (n := 0) ⟨h.ok, Nat.zero_le _⟩
theorem Txt.same {d : PD} {e k : Nat} (h : Txt d e k) : fNe (.str d.shown) (.str d.shown) = some (.d (.bool false)) := ne_same h.shp (eqv_str _)
@[simp] theorem ne_row (r : List (Option Nat)) : fNe (rowD r) (rowD r) = some (.d (.bool false)) := ne_same (shp_L (shp_row r)) (eqv_self (shp_row r).1)
@[simp] theorem eq_row (r : List (Option Nat)) : fEq (rowD r) (rowD r) = some (.d (.bool true)) := eq_is (shp_L (shp_row r)) (shp_L (shp_row r)) (eqv_self (shp_row r).1)
theorem w_leave1 {t : List Nat} {r : List (Option Nat)} (c : Chart t) (l : t.length < 1000) (a : Arr t r) {n : Nat} (h : some n ∈ r) : f_leave [.d (chartD t), .d (rowD r), .d (.tuple [.int n])] = some (.d (rowD (leftL t r (idxOf r n))), []) :=
  w_leave c l a (ls := [n]) (by simp) (fun m hm => by rw [List.mem_singleton] at hm; rw [hm]; exact h) (by simp)
theorem ints_take (l : List Nat) (k : Nat) : (intsD l).take k = intsD (l.take k) := List.map_take.symm
theorem ints_drop (l : List Nat) (k : Nat) : (intsD l).drop k = intsD (l.drop k) := List.map_drop.symm

end MU

namespace MU
open PySem PySem.Spec PyProof.Rows L2
/-! ## a, b = a tuple or a list -/
def gOr (g g2 : TG) : TG := fun v σ H Q => g v σ H Q ∨ g2 v σ H Q
theorem pg_or {X : Cx} {e : Expr} {g g2 : TG} (h : PG X e g) (h2 : PG X e g2) : PG X e (gOr g g2) := by
  refine ⟨fun pins s σ H v u Q I r hw => ?_⟩
  rcases hw with hw | hw
  · exact h.run pins s σ H v u Q I r hw
  · exact h2.run pins s σ H v u Q I r hw
def gvTL (n : Nat) (gvs : Gvs) : Gv := fun x ρ => match x with
  | .tuple xs => if xs.length = n then gvs xs ρ else none
  | .list xs => if xs.length = n then gvs xs ρ else none
  | _ => none
section
variable {K : PySem.W.Frag} {w : World} {gs : TGs}
theorem sg_tl {n : Nat} {gvs : Gvs} (h : SGs K w gs gvs) : SG K w (gOr (gTup K n gs) (gUnl K n gs)) (gvTL n gvs) := fun ρ x ρ' e F0 H0 m F H σ v S d Q q => by
  unfold gvTL at e
  split at e
  · split at e
    · rename_i l
      obtain ⟨a, xs, rfl, hs, hd⟩ := dp_tuple d
      exact .inl ⟨a, xs, rfl, sqt_up S.fh hs, (da_len hd).trans l, h _ _ _ e _ _ _ _ _ _ _ S hd Q q⟩
    · cases e
  · split at e
    · rename_i l
      obtain ⟨a, xs, rfl, hs, hd⟩ := dp_list d
      exact .inr ⟨a, xs, rfl, S.fh.seq hs, (da_len hd).trans l, h _ _ _ e _ _ _ _ _ _ _ S hd Q q⟩
    · cases e
  · cases e
end
@[simp] theorem gvTL_t {n : Nat} {gvs : Gvs} {l : List PD} {ρ : Sts} : gvTL n gvs (.tuple l) ρ = if l.length = n then gvs l ρ else none := nrfl
@[simp] theorem gvTL_l {n : Nat} {gvs : Gvs} {l : List PD} {ρ : Sts} : gvTL n gvs (.list l) ρ = if l.length = n then gvs l ρ else none := nrfl
/-! ## range downwards -/
def rngC (lo c : Int) (n : Nat) : List PD := (List.range n).map fun i : Nat => .int (lo + (i : Int) * c)
@[simp] theorem rngC_len (lo c : Int) (n : Nat) : (rngC lo c n).length = n := by simp [rngC]
theorem rngC_at {lo c : Int} {n i : Nat} {d : PD} (h : (rngC lo c n)[i]? = some d) : i < n ∧ d = .int (lo + (i : Int) * c) := by
  unfold rngC at h
  by_cases l : i < n
  · rw [List.getElem?_map, List.getElem?_range l] at h
    exact ⟨l, (Option.some.inj h).symm⟩
  · rw [List.getElem?_map, List.getElem?_eq_none (by rw [List.length_range]; omega)] at h
    cases h
section
variable {K : PySem.W.Frag} {w : World} {ta tb tc : TE} {a b c : Ev}
theorem yl_rngC {F : Hp} {lo c : Int} {n : Nat} : Yl K (Itc lo c n) F (rngC lo c n) := fun F' H' f h i =>
  ⟨fun d e => by
    obtain ⟨l, rfl⟩ := rngC_at e
    refine ⟨l, fun x H'' y => ?_⟩
    obtain ⟨rfl, rfl⟩ := y
    exact ⟨F', .refl h, .int _⟩, fun l => by rw [rngC_len] at l; exact l⟩
def itRng3 (a b c : Ev) : Iv := fun ρ => match eSee a ρ with
  | some (.int i, ρ1) => match eSee b ρ1 with
    | some (.int j, ρ2) => match eSee c ρ2 with
      | some (.int k, ρ3) => if k = -1 ∧ (rngOk i && rngOk j) = true then some (rngC i (-1) (i - j).toNat, ρ3) else none
      | _ => none
    | _ => none
  | _ => none
theorem si_rng3 (h : SE K w ta a) (h2 : SE K w tb b) (h3 : SE K w tc c) : SI K w (iRng3 (tCons ta (tCons tb (tCons tc tNil)))) (itRng3 a b c) := fun ρ ds ρ' he F0 H0 m F H σ S R q => by
  unfold itRng3 at he
  split at he
  · rename_i i ρ1 e1
    split at he
    · rename_i j ρ2 e2
      split at he
      · rename_i k ρ3 e3
        split at he
        · rename_i l
          obtain ⟨rfl, l⟩ := l
          cases he
          rw [Bool.and_eq_true] at l
          obtain ⟨l1, l2⟩ := rngOk_of l.1
          obtain ⟨l3, l4⟩ := rngOk_of l.2
          exact se_see h e1 S fun u F2 H2 g S2 o => se_see h2 e2 S2 fun u2 F3 H3 g2 S3 o2 => se_see h3 e3 S3 fun u3 F4 H4 g3 S4 o3 => ⟨i, j, -1, _, by rw [rdb_int o, rdb_int o2, rdb_int o3], .neg l1 l2 l3 l4, q _ F4 H4 ((g.trans g2).trans g3) S4 yl_rngC⟩
        · cases he
      · cases he
    · cases he
  · cases he
end
@[simp] theorem itRng3_eq {a b c : Ev} {ρ : Sts} : itRng3 a b c ρ = match eSee a ρ with
  | some (.int i, ρ1) => match eSee b ρ1 with
    | some (.int j, ρ2) => match eSee c ρ2 with
      | some (.int k, ρ3) => if k = -1 ∧ (rngOk i && rngOk j) = true then some (rngC i (-1) (i - j).toNat, ρ3) else none
      | _ => none
    | _ => none
  | _ => none := nrfl
/-! ## sorted(xs, reverse=True), ints -/
def fSortedR : List PD → Option Vl
  | [.list ds] => (intsOf ds).map fun ns => .new ((sortI ns).reverse.map .int)
  | _ => none
section
variable {K : PySem.W.Frag} {w : World} {tz : TA} {as : Av}
def eSortR (as : Av) : Ev := eCb fSortedR as
theorem sort_down {l l' : List Int} (hp : l'.Perm l) (hs : l'.Pairwise (· ≥ ·)) : l' = (sortI l).reverse := by
  have h1 : l'.reverse.Pairwise (· ≤ ·) := List.pairwise_reverse.mpr hs
  have h2 := sortI_uniq ((List.reverse_perm l').trans hp) h1
  rw [← h2, List.reverse_reverse]
theorem cb_sortedR : CbS K (fun vs H Q => rSortedKw K true [.bl true] vs [.bl true] H Q) fSortedR := fun F H us ds z fz h e Q q => by
  unfold fSortedR at e
  split at e
  · rename_i xs
    obtain ⟨u, rfl, o⟩ := rd1 h
    cases e1 : intsOf xs with
    | none => rw [e1] at e; cases e
    | some ns =>
      rw [e1] at e
      cases e
      rw [intsOf_eq e1] at o
      obtain ⟨a, vs, rfl, sq, d⟩ := rdb_list o fz.s
      rw [ints_da d] at sq
      refine ⟨a, ns, rfl, rfl, sq, fun ns' p h1 h2 np => ?_⟩
      rw [sort_down h1 h2]
      exact mk_new fz.s np (da_ints _) q
  · cases e
theorem se_sortR (h : SA K w tz as) : SE K w (tCKw (rSortedKw K true [.bl true]) tz (tCons (tC (.bl true)) tNil)) (eSortR as) := fun ρ v ρ' he F0 H0 m F H σ S Q q =>
  se_cb (cb_sortedR (K := K)) h ρ v ρ' he F0 H0 m F H σ S Q q
end
@[simp] theorem eSortR_eq {as : Av} {ρ : Sts} : eSortR as ρ = match as ρ with
  | none => none
  | some (vs, ρ1) => match lookAll ρ1 vs with
    | none => none
    | some ds => (fSortedR ds).map (·, ρ1) := nrfl
@[simp] theorem fSortedR_l {ds : List PD} : fSortedR [.list ds] = (intsOf ds).map fun ns => .new ((sortI ns).reverse.map .int) := nrfl
end MU

namespace MU
/-! ## the post that is empty in the end; joining there leads back -/
def vacF (t : List Nat) : Nat → List (Option Nat) → Nat → Nat
  | 0, _, q => q
  | f + 1, r, q => match nxt t r q with
    | none => q
    | some k => vacF t f (r.set q (r[k]?.join)) k
def vacL (t : List Nat) (r : List (Option Nat)) (j : Nat) : Nat := vacF t t.length r j
theorem ent_free (t : List Nat) (n : Nat) : ∀ (f q : Nat) (s : List (Option Nat)) (x : Option Nat), Chart t → q < t.length + 1 → entF t f (s.set q x) n q = entF t f s n q
  | 0, q, s, x, _, _ => by unfold entF; rw [List.set_set]
  | f + 1, q, s, x, c, lq => by
    unfold entF
    by_cases h0 : q = 0
    · rw [if_pos h0, if_pos h0, List.set_set]
    · rw [if_neg h0, if_neg h0]
      obtain ⟨p, hp⟩ := chart_has (t := t) (j := q) (by omega) lq
      have lp := (way_step c (by omega) hp).2
      rw [List.getElem?_set_ne (by rw [par_at hp]; omega)]
      split
      · rw [List.set_set, List.set_set]
      · rw [List.set_set]
theorem ent_fuel {t : List Nat} (c : Chart t) (n : Nat) : ∀ (q f f' : Nat) (s : List (Option Nat)), q < t.length + 1 → q ≤ f → q ≤ f' → entF t f s n q = entF t f' s n q := by
  intro q
  induction q using Nat.strongRecOn with
  | ind q ih =>
    intro f f' s lq h h'
    by_cases h0 : q = 0
    · subst h0
      cases f <;> cases f' <;> simp [entF]
    · obtain ⟨f, rfl⟩ : ∃ g, f = g + 1 := ⟨f - 1, by omega⟩
      obtain ⟨f', rfl⟩ : ∃ g, f' = g + 1 := ⟨f' - 1, by omega⟩
      obtain ⟨p, hp⟩ := chart_has (t := t) (j := q) (by omega) lq
      have lp := (way_step c (by omega) hp).2
      unfold entF
      rw [if_neg h0, if_neg h0, par_at hp]
      split
      · rw [ih p lp f f' _ (by omega) (by omega) (by omega)]
      · rfl
theorem ent_down {t : List Nat} (c : Chart t) {s : List (Option Nat)} {n q k m : Nat} (k0 : 0 < k) (lk : k < t.length + 1) (hp : t[k - 1]? = some q) (hm : s[q]? = some (some m)) (l : n < m) : entF t t.length s n k = entF t t.length (s.set k (some m)) n q := by
  have lp := (way_step c k0 hp).2
  obtain ⟨f, e⟩ : ∃ f, t.length = f + 1 := ⟨t.length - 1, by omega⟩
  rw [e]
  show (if k = 0 then _ else _) = _
  rw [if_neg (by omega), par_at hp, hm]
  dsimp only
  rw [if_pos l]
  exact ent_fuel c n q f (f + 1) _ (by omega) (by omega) (by omega)
theorem back_dep {t : List Nat} (c : Chart t) (n : Nat) : ∀ (f : Nat) (r : List (Option Nat)) (q : Nat), Gap t r q → t.length ≤ q + f → (∀ k m : Nat, t[k]? = some q → r[k + 1]? = some (some m) → n < m) →
    entF t t.length (depF t f r q).1 n (vacF t f r q) = entF t t.length (r.set q none) n q := by
  intro f
  induction f with
  | zero => intro r q g l h; rfl
  | succ f ih =>
    intro r q g l h
    cases hk : nxt t r q with
    | none => simp only [depF, vacF, hk]
    | some k =>
      simp only [depF, vacF, hk]
      obtain ⟨qk, lk, hp, ⟨m, hm⟩, _⟩ := nxt_some c hk
      have g2 := gap_some c g hk hm
      have nm : n < m := h (k - 1) m hp (by rw [show k - 1 + 1 = k by omega]; exact hm)
      rw [hm]
      simp only [Option.join_some]
      have lq : q < r.length := by rw [g.len]; exact g.lt
      rw [ih _ k g2 (by omega) fun k2 m2 h1 h2 => ?_]
      · rw [ent_free t n _ k _ _ c lk, ent_down c (by omega) lk hp (List.getElem?_set_self lq) nm]
        have e1 : (r.set q (some m)).set k (some m) = r.set q (some m) := by
          apply List.ext_getElem?
          intro i
          by_cases z : i = k
          · subst z
            rw [List.getElem?_set_self (by rw [List.length_set, g.len]; exact lk), List.getElem?_set_ne (by omega)]
            exact hm.symm
          · rw [List.getElem?_set_ne (Ne.symm z)]
        rw [e1, ent_free t n _ q _ _ c g.lt, ent_free t n _ q _ _ c g.lt]
      · have k2k : k < k2 + 1 := by
          have := c k2 k h1
          omega
        rw [List.getElem?_set_ne (by omega)] at h2
        obtain ⟨m', e, l'⟩ := g.ord k2 k m2 h1 (by omega) (by omega) h2
        rw [hm] at e
        cases e
        omega
theorem join_back {t : List Nat} {r : List (Option Nat)} {j n : Nat} (c : Chart t) (a : Arr t r) (hj : r[j]? = some (some n)) : joinL t (leftL t r j) n (vacL t r j) = r := by
  have lj : j < t.length + 1 := by rw [← a.len]; exact (List.getElem?_eq_some_iff.mp hj).1
  unfold joinL leftL vacL
  rw [back_dep c n t.length r j (gap_of c a lj) (by omega) fun k m h1 h2 => ?_]
  · have e2 : r.set j (some n) = r := by
      apply List.ext_getElem?
      intro i
      by_cases z : i = j
      · subst z
        rw [List.getElem?_set_self (by rw [a.len]; exact lj)]
        exact hj.symm
      · rw [List.getElem?_set_ne (Ne.symm z)]
    rw [ent_free t n _ j _ _ c lj]
    by_cases h0 : j = 0
    · subst h0
      cases t.length <;> simp [entF, e2]
    · obtain ⟨p, hp⟩ := chart_has (t := t) (j := j) (by omega) lj
      obtain ⟨h, hh, lh⟩ := a.ord (j - 1) p n hp (by rw [show j - 1 + 1 = j by omega]; exact hj)
      obtain ⟨f, e⟩ : ∃ f, t.length = f + 1 := ⟨t.length - 1, by omega⟩
      rw [e]
      show (if j = 0 then _ else _) = _
      rw [if_neg h0, par_at hp, hh]
      dsimp only
      rw [if_neg (by omega)]
      exact e2
  · obtain ⟨m', e, l'⟩ := a.ord k j m h1 h2
    rw [hj] at e
    cases e
    exact l'
/-! what is held afterwards -/
theorem hold_set {r : List (Option Nat)} {q i : Nat} {x : Option Nat} (l : q < r.length) : hold (r.set q x) i = if i = q then x.isSome else hold r i := by
  by_cases z : i = q
  · subst z
    rw [if_pos rfl, hold_at (List.getElem?_set_self l)]
  · rw [if_neg z]
    unfold hold
    rw [List.getElem?_set_ne (Ne.symm z)]
theorem vac_le {t : List Nat} (c : Chart t) : ∀ (f : Nat) (r : List (Option Nat)) (q : Nat), q < t.length + 1 → q ≤ vacF t f r q ∧ vacF t f r q < t.length + 1
  | 0, r, q, l => ⟨Nat.le_refl _, l⟩
  | f + 1, r, q, l => by
    unfold vacF
    split
    · exact ⟨Nat.le_refl _, l⟩
    · rename_i k hk
      obtain ⟨qk, lk, _⟩ := nxt_some c hk
      have := vac_le c f (r.set q (r[k]?.join)) k lk
      omega
theorem hold_dep {t : List Nat} (c : Chart t) : ∀ (f : Nat) (r : List (Option Nat)) (q : Nat), r.length = t.length + 1 → q < t.length + 1 → ∀ i, hold (depF t f r q).1 i = ((decide (i = q) || hold r i) && !decide (i = vacF t f r q))
  | 0, r, q, lr, l, i => by
    unfold depF vacF
    rw [hold_set (by omega)]
    by_cases z : i = q <;> simp [z]
  | f + 1, r, q, lr, l, i => by
    cases hk : nxt t r q with
    | none =>
      simp only [depF, vacF, hk]
      rw [hold_set (by omega)]
      by_cases z : i = q <;> simp [z]
    | some k =>
      simp only [depF, vacF, hk]
      obtain ⟨qk, lk, hp, ⟨m, hm⟩, _⟩ := nxt_some c hk
      rw [hold_dep c f _ k (by rw [List.length_set]; exact lr) lk i, hm]
      simp only [Option.join_some]
      rw [hold_set (by omega)]
      have hk2 := hold_at hm
      by_cases z : i = q
      · simp [z]
      · by_cases z2 : i = k
        · subst z2
          simp [z, hk2]
        · simp [z, z2]
theorem vac_hold {t : List Nat} (c : Chart t) : ∀ (f : Nat) (r : List (Option Nat)) (q : Nat), r.length = t.length + 1 → q < t.length + 1 → hold r q = true → hold r (vacF t f r q) = true
  | 0, r, q, _, _, h => h
  | f + 1, r, q, lr, l, h => by
    unfold vacF
    split
    · exact h
    · rename_i k hk
      obtain ⟨qk, lk, hp, ⟨m, hm⟩, _⟩ := nxt_some c hk
      rw [hm]
      simp only [Option.join_some]
      have := vac_hold c f (r.set q (some m)) k (by rw [List.length_set]; exact lr) lk (by rw [hold_set (by omega), if_neg (by omega)]; exact hold_at hm)
      rw [hold_set (by omega)] at this
      have l2 := (vac_le c f (r.set q (some m)) k lk).1
      rw [if_neg (by omega)] at this
      exact this
structure Vac (t : List Nat) (r : List (Option Nat)) (j v : Nat) : Prop where
  lt : v < t.length + 1
  was : hold r v = true
  now : ∀ i, hold (leftL t r j) i = (hold r i && !decide (i = v))
theorem vac_ok {t : List Nat} {r : List (Option Nat)} {j n : Nat} (c : Chart t) (a : Arr t r) (hj : r[j]? = some (some n)) : Vac t r j (vacL t r j) := by
  have lj : j < t.length + 1 := by rw [← a.len]; exact (List.getElem?_eq_some_iff.mp hj).1
  have hh := hold_at hj
  refine ⟨(vac_le c _ _ _ lj).2, vac_hold c _ _ _ a.len lj hh, fun i => ?_⟩
  unfold leftL vacL
  rw [hold_dep c _ _ _ a.len lj i]
  by_cases z : i = j
  · simp [z, hh]
  · simp [z]
theorem hold_par {t : List Nat} {r : List (Option Nat)} (c : Chart t) (a : Arr t r) {k : Nat} (h0 : k ≠ 0) (h : hold r k = true) : hold r (par t k) = true ∧ par t k < k := by
  obtain ⟨n, hn⟩ := hold_some h
  have lk : k < t.length + 1 := by rw [← a.len]; exact (List.getElem?_eq_some_iff.mp hn).1
  obtain ⟨p, hp⟩ := chart_has (t := t) (j := k) (by omega) lk
  obtain ⟨m, hm, _⟩ := a.ord (k - 1) p n hp (by rw [show k - 1 + 1 = k by omega]; exact hn)
  rw [par_at hp]
  exact ⟨hold_at hm, (way_step c (by omega) hp).2⟩
theorem vac_open {t : List Nat} {r : List (Option Nat)} {j v : Nat} (c : Chart t) (a : Arr t r) (w : Vac t r j v) : opn t (leftL t r j) v = true := by
  unfold opn
  rw [w.now v, w.now (par t v)]
  by_cases h0 : v = 0
  · simp [h0]
  · obtain ⟨h1, h2⟩ := hold_par c a h0 w.was
    simp [h1]
    omega
theorem hold_ent {t : List Nat} (c : Chart t) (n : Nat) : ∀ (f : Nat) (s : List (Option Nat)) (q : Nat), s.length = t.length + 1 → q < t.length + 1 → ∀ i, hold (entF t f s n q) i = (hold s i || decide (i = q))
  | 0, s, q, ls, l, i => by
    unfold entF
    rw [hold_set (by omega)]
    by_cases z : i = q <;> simp [z]
  | f + 1, s, q, ls, l, i => by
    unfold entF
    split
    · rw [hold_set (by omega)]
      by_cases z : i = q <;> simp [z]
    · rename_i h0
      obtain ⟨p, hp⟩ := chart_has (t := t) (j := q) (by omega) l
      have lp := (way_step c (by omega) hp).2
      split
      · rename_i h hh
        split
        · rw [hold_ent c n f _ _ (by rw [List.length_set]; exact ls) (by rw [par_at hp]; omega) i, hold_set (by omega)]
          have e := hold_at hh
          by_cases z : i = q
          · simp [z]
          · by_cases z2 : i = par t q
            · subst z2; simp [z, e]
            · simp [z, z2]
        · rw [hold_set (by omega)]
          by_cases z : i = q <;> simp [z]
      · rw [hold_set (by omega)]
        by_cases z : i = q <;> simp [z]
theorem hold_join {t : List Nat} {r : List (Option Nat)} {n j : Nat} (c : Chart t) (lr : r.length = t.length + 1) (lj : j < t.length + 1) (i : Nat) : hold (joinL t r n j) i = (hold r i || decide (i = j)) := hold_ent c n _ r j lr lj i
theorem open_join {t : List Nat} {r : List (Option Nat)} {n j k : Nat} (c : Chart t) (lr : r.length = t.length + 1) (lj : j < t.length + 1) (h : k ≠ j) (o : opn t r k = true) : opn t (joinL t r n j) k = true := by
  unfold opn at o ⊢
  rw [hold_join c lr lj, hold_join c lr lj]
  simp only [Bool.and_eq_true, Bool.or_eq_true, Bool.not_eq_true', decide_eq_true_eq, Bool.or_eq_false_iff, decide_eq_false_iff_not] at o ⊢
  exact ⟨⟨o.1, h⟩, o.2.elim .inl fun z => .inr (.inl z)⟩
end MU

namespace MU
open PySem PySem.Spec L2
def b_l_empty : Sv :=
  (sRet (eLc [1, 2] (itEnum (eVar 0)) (gvTup 2 (gvsCons (gvName 1) (gvsCons (gvName 2) gvsNil))) (tvB (eOp fIsN (eVar 2) (eC .none))) (eVar 1)))
def f_l_empty : Fn := fnOf 3 1 b_l_empty
def b_l_leave_right : Sv :=
  (sSeq (sSet 3 (eStar2 f_leave (aCons (eDat (eVar 0)) (aCons (eDat (eVar 1)) (aCons (eDat (eVar 2)) aNil)))))
  (sSeq (sSet 4 (eLc [5] (itSeq (eCall f_l_empty (xR (eVar 3) xNil))) (gvName 5) (tvB (eOp (fIn true) (eVar 5) (eCall f_l_empty (xR (eVar 1) xNil)))) (eVar 5)))
  (sSeq (sIf (tvOr (tvB (eOp fNotN (eCall f_check_arrangement (xR (eVar 0) (xR (eVar 3) xNil))) (eC .none))) (tvB (eOp fNe (eCb fLen (aCons (eRd (eVar 4)) aNil)) (eC (.int 1))))) (sRet (eC .none)) sNext)
  (sSeq (sIf (tvB (eOp fNe (eCb fLen (aCons (eRd (eCall f_l_empty (xR (eVar 3) xNil))) aNil)) (eOp fAdd (eCb fLen (aCons (eRd (eCall f_l_empty (xR (eVar 1) xNil))) aNil)) (eC (.int 1))))) (sRet (eC .none)) sNext)
  (sSeq (sIf (tvOr (tvB (eOp (fIn true) (eOp fIx (eVar 4) (eC (.int 0))) (eCall f_open_posts (xR (eVar 0) (xR (eVar 3) xNil))))) (tvB (eOp fNe (eCall f_join (xR (eVar 0) (xR (eVar 3) (xR (eVar 2) (xR (eOp fIx (eVar 4) (eC (.int 0))) xNil))))) (eVar 1)))) (sRet (eC .none)) sNext)
  (sRet (eVar 3)))))))
def f_l_leave_right : Fn := fnOf 6 3 b_l_leave_right
def b_l_join_right : Sv :=
  (sSeq (sSet 4 (eCall f_join (xR (eVar 0) (xR (eVar 1) (xR (eVar 2) (xR (eVar 3) xNil))))))
  (sSeq (sIf (tvOr (tvB (eOp fNotN (eCall f_check_arrangement (xR (eVar 0) (xR (eVar 4) xNil))) (eC .none))) (tvB (eOp fNe (eStar2 f_leave (aCons (eDat (eVar 0)) (aCons (eDat (eVar 4)) (aCons (eDat (eVar 2)) aNil)))) (eVar 1)))) (sRet (eC .none)) sNext)
  (sSeq (sSet 5 (eCall f_path_to (xR (eVar 0) (xR (eVar 3) xNil))))
  (sSeq (sIf (tvB (eOp fNe (eLc [7] (itSeq (eVar 5)) (gvName 7) tvYes (eOp fIx (eVar 4) (eVar 7))) (eCb fSortedU (aCons (eRd (eLc [7] (itSeq (eVar 5)) (gvName 7) tvYes (eOp fIx (eVar 4) (eVar 7)))) aNil)))) (sRet (eC .none)) sNext)
  (sSeq (sSet 6 (eLc [8] (itRng1 (eCb fLen (aCons (eRd (eVar 0)) aNil))) (gvName 8) (tvB (eOp (fIn true) (eVar 8) (eVar 5))) (eVar 8)))
  (sSeq (sIf (tvB (eOp fNe (eLc [8] (itSeq (eVar 6)) (gvName 8) tvYes (eOp fIx (eVar 4) (eVar 8))) (eLc [8] (itSeq (eVar 6)) (gvName 8) tvYes (eOp fIx (eVar 1) (eVar 8))))) (sRet (eC .none)) sNext)
  (sRet (eVar 4))))))))
def f_l_join_right : Fn := fnOf 9 4 b_l_join_right
def b_l_two_right : Sv :=
  (sSeq (sAsg (gvTL 2 (gvsCons (gvName 4) (gvsCons (gvName 5) gvsNil))) (eVar 3))
  (sSeq (sIf (tvB (eOp fEq (eVar 4) (eVar 5))) (sRet (eC (.bool true))) sNext)
  (sSeq (sSet 6 (eCall f_join (xR (eVar 0) (xR (eVar 1) (xR (eOp fIx (eVar 2) (eC (.int 0))) (xR (eVar 4) xNil))))))
  (sSeq (sSet 7 (eCall f_join (xR (eVar 0) (xR (eVar 6) (xR (eOp fIx (eVar 2) (eC (.int 1))) (xR (eVar 5) xNil))))))
  (sSeq (sIf (tvOr (tvB (eOp fNe (eCall f_l_held (xR (eVar 7) xNil)) (eCb fSortedU (aCons (eRd (eOp fAdd (eCall f_l_held (xR (eVar 1) xNil)) (eVar 2))) aNil)))) (tvB (eOp fNe (eStar2 f_leave (aCons (eDat (eVar 0)) (aCons (eDat (eVar 7)) (aCons (eDat (eOp fIx (eVar 2) (eC (.int 1)))) aNil)))) (eVar 6)))) (sRet (eC (.bool false))) sNext)
  (sRet (eOp fEq (eStar2 f_leave (aCons (eDat (eVar 0)) (aCons (eDat (eVar 6)) (aCons (eDat (eOp fIx (eVar 2) (eC (.int 0)))) aNil)))) (eVar 1))))))))
def f_l_two_right : Fn := fnOf 8 4 b_l_two_right
def b_law_7 : Sv :=
  (sSeq (sFor (itRng1 (eC (.int 3))) (gvName 1) (sSeq (sSet 2 (eCall f_l_generator (xR (eVar 0) (xR (eVar 1) xNil))))
  (sSeq (sSet 3 (eCall f_l_random_chart (xM (eVar 2) (xR (eC (.int 10)) xNil))))
  (sSeq (sSet 4 (eCall f_l_random_rows (xM (eVar 2) (xR (eVar 3) xNil))))
  (sFor (itRng1 (eC (.int 20))) (gvName 5) (sSeq (sAsg (gvTup 2 (gvsCons (gvName 6) (gvsCons (gvName 7) gvsNil))) (eTup (aCons (eDat (eCall f_l_held (xR (eVar 4) xNil))) (aCons (eDat (eCall f_open_posts (xR (eVar 3) (xR (eVar 4) xNil)))) aNil))))
  (sSeq (sSet 8 (eLst (aCons (eDat (eC (.int 0))) (aCons (eDat (eCall f_l_random (xM (eVar 2) (xR (eOp fPow (eC (.int 10)) (eC (.int 17))) xNil)))) (aCons (eDat (eOp fAdd (eCb fMaxU (aCons (eRd (eOp fAdd (eLst (aCons (eDat (eUn fNeg (eC (.int 1)))) aNil)) (eVar 6))) aNil)) (eC (.int 1)))) aNil)))))
  (sSeq (sSet 8 (eLc [14] (itSeq (eVar 8)) (gvName 14) (tvB (eOp (fIn true) (eVar 14) (eVar 6))) (eVar 14)))
  (sSeq (sIf (tvAnd (tvB (eOp fNe (eVar 7) (eLst aNil))) (tvOr (tvB (eOp fEq (eVar 6) (eLst aNil))) (tvB (eOp fEq (eCall f_l_random (xM (eVar 2) (xR (eC (.int 2)) xNil))) (eC (.int 0)))))) (sSeq (sSet 9 (eOp fIx (eVar 7) (eCall f_l_random (xM (eVar 2) (xR (eCb fLen (aCons (eRd (eVar 7)) aNil)) xNil)))))
  (sSeq (sSet 10 (eLst (aCons (eDat (eOp fIx (eVar 8) (eUn fNeg (eC (.int 1))))) (aCons (eDat (eOp fAdd (eOp fIx (eVar 8) (eUn fNeg (eC (.int 1)))) (eC (.int 1)))) aNil))))
  (sSeq (sSet 11 (eLc [14] (itSeq (eVar 8)) (gvName 14) (tvB (eOp (fI fun i j => decide (i < j)) (eVar 14) (eOp fIx (eVar 8) (eUn fNeg (eC (.int 1)))))) (eVar 14)))
  (sSeq (sIf (tvAnd (tvB (eOp fNe (eVar 11) (eLst aNil))) (tvB (eOp fEq (eCall f_l_random (xM (eVar 2) (xR (eC (.int 2)) xNil))) (eC (.int 0))))) (sAsg (gvSub 10 (eC (.int 1))) (eOp fIx (eVar 11) (eC (.int 0)))) sNext)
  (sSeq (sSet 12 (eOp fIx (eVar 7) (eCall f_l_random (xM (eVar 2) (xR (eCb fLen (aCons (eRd (eVar 7)) aNil)) xNil)))))
  (sSeq (sSet 13 (eCall f_l_join_right (xR (eVar 3) (xR (eVar 4) (xR (eOp fIx (eVar 8) (eCall f_l_random (xM (eVar 2) (xR (eCb fLen (aCons (eRd (eVar 8)) aNil)) xNil)))) (xR (eVar 9) xNil))))))
  (sSeq (sIf (tvOr (tvB (eOp fIsN (eVar 13) (eC .none))) (tvNot (tvB (eCall f_l_two_right (xR (eVar 3) (xR (eVar 4) (xR (eVar 10) (xR (eLst (aCons (eDat (eVar 9)) (aCons (eDat (eVar 12)) aNil))) xNil)))))))) (sRet (eC (.bool false))) sNext)
  (sSet 4 (eVar 13))))))))) (sSet 4 (eCall f_l_leave_right (xR (eVar 3) (xR (eVar 4) (xR (eOp fIx (eVar 6) (eCall f_l_random (xM (eVar 2) (xR (eCb fLen (aCons (eRd (eVar 6)) aNil)) xNil)))) xNil))))))
  (sIf (tvB (eOp fIsN (eVar 4) (eC .none))) (sRet (eC (.bool false))) sNext))))))))))
  (sRet (eC (.bool true))))
def f_law_7 : Fn := fnOf 15 1 b_law_7
/-- the empty posts -/
def emptyL (r : List (Option Nat)) : List Nat := (List.range r.length).filter fun k => !hold r k
theorem empty_mem {r : List (Option Nat)} {k : Nat} : k ∈ emptyL r ↔ k < r.length ∧ hold r k = false := by
  unfold emptyL
  rw [List.mem_filter, List.mem_range]
  simp
theorem empty_le (r : List (Option Nat)) : (emptyL r).length ≤ r.length := by
  have := List.length_filter_le (fun k => !hold r k) (List.range r.length)
  rwa [List.length_range] at this
theorem fm_sel (p : Nat → Bool) : ∀ l : List Nat, (l.filterMap fun i => if p i = true then some (PyData.int (i : Nat)) else none) = intsD (l.filter p)
  | [] => rfl
  | n :: l => by
    rw [List.filterMap_cons, List.filter_cons, fm_sel p l]
    cases h : p n <;> simp [h]
theorem w_empty {r : List (Option Nat)} (l : r.length ≤ 1000) : f_l_empty [.d (rowD r)] = some (.new (intsD (emptyL r)), []) := by
  refine ok_fn rfl ?_
  have e := lc_eq (vs := [1, 2]) (it := itEnum (eVar 0)) (gv := gvTup 2 (gvsCons (gvName 1) (gvsCons (gvName 2) gvsNil))) (tv := tvB (eOp fIsN (eVar 2) (eC .none))) (e := eVar 1) (ρ := [.d (rowD r), .emp, .emp]) (ρ1 := [.d (rowD r), .emp, .emp]) (ds := enumD (rowL r)) (fun d => match d with | .tuple [.int i, c] => if isNon c then some (.int i) else none | _ => none) (by simp [rowD]) (by rw [enum_len, row_len]; omega) (fun k x hk => by
    obtain ⟨d, hd, rfl⟩ := enum_at hk
    obtain ⟨c, hc, rfl⟩ := row_of hd
    cases c <;> simp [cellD])
  rw [enum_range, row_len, List.filterMap_map] at e
  rw [fm_congr (g := fun i => if (!hold r i) = true then some (PyData.int (i : Nat)) else none) (fun i hi => by
    obtain ⟨c, hc⟩ := row_has (r := r) (List.mem_range.mp hi)
    have h1 := row_at hc
    have h2 := hold_at hc
    simp only [Function.comp, h1, h2]
    cases c <;> rfl), fm_sel] at e
  simp [b_l_empty, e, -eLc_eq]
  rfl
theorem filter_in (l l' : List Nat) (f : PD → Option PD) (hf : ∀ j : Nat, f (.int (j : Int)) = if decide (j ∈ l') = true then some (.int (j : Int)) else none) : (intsD l).filterMap f = intsD (l.filter fun j => decide (j ∈ l')) := filt_ints l _ f hf
theorem vac_empty {t : List Nat} {r : List (Option Nat)} {j v : Nat} (lr : r.length = t.length + 1) (w : Vac t r j v) : (emptyL (leftL t r j)).filter (fun k => decide (k ∉ emptyL r)) = [v] := by
  have ll := left_len t r j
  have nd : ((emptyL (leftL t r j)).filter (fun k => decide (k ∉ emptyL r))).Nodup := (List.Nodup.sublist List.filter_sublist ((List.nodup_range).sublist List.filter_sublist))
  have mem : ∀ k, k ∈ (emptyL (leftL t r j)).filter (fun k => decide (k ∉ emptyL r)) ↔ k = v := fun k => by
    rw [List.mem_filter, empty_mem, decide_eq_true_eq, empty_mem, w.now k, ll, lr]
    constructor
    · rintro ⟨⟨h1, h2⟩, h3⟩
      by_cases z : k = v
      · exact z
      · simp [z] at h2
        exact absurd ⟨h1, h2⟩ h3
    · rintro rfl
      exact ⟨⟨w.lt, by simp⟩, fun h => by rw [w.was] at h; cases h.2⟩
  generalize (emptyL (leftL t r j)).filter (fun k => decide (k ∉ emptyL r)) = l at nd mem
  match l, nd, mem with
  | [], _, mem => exact absurd ((mem v).mpr rfl) (by simp)
  | [a], _, mem => rw [(mem a).mp (by simp)]
  | a :: b :: l, nd, mem =>
    have h1 := (mem a).mp (by simp)
    have h2 := (mem b).mp (by simp)
    rw [h1, h2] at nd
    simp at nd
theorem vac_count {t : List Nat} {r : List (Option Nat)} {j v : Nat} (lr : r.length = t.length + 1) (w : Vac t r j v) : (emptyL (leftL t r j)).length = (emptyL r).length + 1 := by
  have ll := left_len t r j
  have p : (emptyL (leftL t r j)).Perm (v :: emptyL r) := by
    refine (List.perm_ext_iff_of_nodup ((List.nodup_range).sublist List.filter_sublist) (List.nodup_cons.mpr ⟨fun h => ?_, (List.nodup_range).sublist List.filter_sublist⟩)).mpr fun k => ?_
    · have := (empty_mem.mp h).2
      rw [w.was] at this
      cases this
    · show k ∈ emptyL _ ↔ _
      rw [List.mem_cons, empty_mem, w.now k, ll, show (k ∈ List.filter (fun k => !hold r k) (List.range r.length)) = (k ∈ emptyL r) from rfl, empty_mem, lr]
      by_cases z : k = v
      · subst z; simp [w.lt]
      · simp [z]
  rw [p.length_eq]
  rfl
theorem w_leave_right {t : List Nat} {r : List (Option Nat)} (ct : Chart t) (lt : t.length < 100) (a : Arr t r) {n : Nat} (hn : some n ∈ r) : f_l_leave_right [.d (chartD t), .d (rowD r), .d (.int n)] = some (.d (rowD (leftL t r (idxOf r n))), []) := by
  obtain ⟨j, hj, fj⟩ := idx_at hn
  have ej := idx_eq hj fj
  have w := vac_ok ct a hj
  have jb := join_back ct a hj
  generalize vacL t r j = v at w jb
  have lj : j < t.length + 1 := by rw [← a.len]; exact (List.getElem?_eq_some_iff.mp hj).1
  have aa := left_arr ct a lj
  have vo := vac_open ct a w
  have nn : some n ∉ leftL t r j := fun h => ((left_mem ct a hj n).mp h).2 rfl
  have hl := w_leave1 ct (show t.length < 1000 by omega) a hn
  rw [ej] at hl ⊢
  have ve := vac_empty a.len w
  have vc := vac_count a.len w
  have hjn := w_join ct (show t.length < 1000 by omega) aa w.lt vo nn
  rw [jb] at hjn
  have al := a.len
  have aal := aa.len
  have e1 := w_empty (r := r) (by omega)
  have e2 := w_empty (r := leftL t r j) (by omega)
  have ev : v ∈ openL t (leftL t r j) := List.mem_filter.mpr ⟨List.mem_range.mpr w.lt, vo⟩
  have wc := w_check_arr ct (show t.length < 1000 by omega) aa
  have wo := w_open_posts ct (show t.length < 1000 by omega) aa
  generalize leftL t r j = s at *
  have le := empty_le s
  have e3 := lc_eq (vs := [5]) (it := itSeq (eCall f_l_empty (xR (eVar 3) xNil))) (gv := gvName 5) (tv := tvB (eOp (fIn true) (eVar 5) (eCall f_l_empty (xR (eVar 1) xNil)))) (e := eVar 5) (ρ := [.d (chartD t), .d (rowD r), .d (.int n), .d (rowD s), .emp, .emp]) (ρ1 := [.d (chartD t), .d (rowD r), .d (.int n), .d (rowD s), .emp, .emp]) (ds := intsD (emptyL s)) (selD fun k => decide (k ∉ emptyL r)) (by simp [e2]) (by rw [ints_len]; omega) (fun k x hk => by
    obtain ⟨i, hi, rfl⟩ := ints_at hk
    rw [sel_at]
    by_cases h : i ∈ emptyL r <;> simp [e1, h])
  rw [sel_filter, ve] at e3
  refine ok_fn rfl (ok_seq (ok_run (fl := .next) (ρ' := [.d (chartD t), .d (rowD r), .d (.int n), .d (rowD s), .emp, .emp]) (by simp [hl]) ?_))
  refine ok_seq (ok_run (fl := .next) (ρ' := [.d (chartD t), .d (rowD r), .d (.int n), .d (rowD s), .own true (intsD [v]), .emp]) (by simp [-eLc_eq, e3]) ?_)
  refine ok_seq (ok_run (fl := .next) (ρ' := [.d (chartD t), .d (rowD r), .d (.int n), .d (rowD s), .own true (intsD [v]), .emp]) (by simp [wc]) ?_)
  refine ok_seq (ok_run (fl := .next) (ρ' := [.d (chartD t), .d (rowD r), .d (.int n), .d (rowD s), .own true (intsD [v]), .emp]) (by simp [e1, e2, vc]) ?_)
  refine ok_seq (ok_run (fl := .next) (ρ' := [.d (chartD t), .d (rowD r), .d (.int n), .d (rowD s), .own true (intsD [v]), .emp]) (by simp [wo, ev, hjn]) ?_)
  simp

end MU

namespace MU
open PySem PySem.Spec L2
def b_l_orders_right : Sv :=
  (sSeq (sSet 5 (eCall f_l_one_by_one (xR (eVar 1) (xR (eVar 2) (xR (eOp fAdd (eVar 3) (eVar 4)) xNil)))))
  (sSeq (sIf (tvOr (tvB (eOp fIsN (eVar 5) (eC .none))) (tvB (eOp fNe (eCall f_l_one_by_one (xR (eVar 1) (xR (eVar 2) (xR (eOp fAdd (eVar 4) (eVar 3)) xNil)))) (eVar 5)))) (sRet (eC (.bool false))) sNext)
  (sSeq (sIf (tvB (eOp fNe (eCall f_l_one_by_one (xR (eVar 1) (xR (eVar 2) (xR (eCall f_l_shuffled (xM (eVar 0) (xR (eOp fAdd (eVar 3) (eVar 4)) xNil))) xNil)))) (eVar 5))) (sRet (eC (.bool false))) sNext)
  (sSeq (sSet 6 (eLc [8] (itSeq (eCall f_l_held (xR (eVar 2) xNil))) (gvName 8) (tvB (eOp (fIn true) (eVar 8) (eOp fAdd (eVar 3) (eVar 4)))) (eVar 8)))
  (sSeq (sIf (tvB (eOp fNe (eCall f_reduced (xR (eVar 1) (xR (eVar 2) (xR (eVar 6) xNil)))) (eVar 5))) (sRet (eC (.bool false))) sNext)
  (sSeq (sSet 7 (eCall f_reduced (xR (eVar 1) (xR (eVar 2) (xR (eOp fAdd (eVar 6) (eVar 4)) xNil)))))
  (sRet (eAnd (eOp fEq (eVar 7) (eCall f_l_one_by_one (xR (eVar 1) (xR (eVar 2) (xR (eVar 3) xNil))))) (eOp fEq (eCall f_reduced (xR (eVar 1) (xR (eVar 7) (xR (eVar 6) xNil)))) (eVar 5))))))))))
def f_l_orders_right : Fn := fnOf 9 5 b_l_orders_right
def b_l_positions_right : Sv :=
  (sSeq (sSet 3 (eCall f_l_one_by_one (xR (eVar 0) (xR (eVar 1) (xR (eVar 2) xNil)))))
  (sSeq (sFor (itSeq (eCall f_l_held (xR (eVar 3) xNil))) (gvName 4) (sSeq (sPar 5 6 (aCons (eDat (eCall f_post_of (xR (eVar 0) (xR (eVar 1) (xR (eVar 4) xNil))))) (aCons (eDat (eCall f_post_of (xR (eVar 0) (xR (eVar 3) (xR (eVar 4) xNil))))) aNil)))
  (sIf (tvOr (tvB (eOp (fIn true) (eVar 6) (eCall f_path_to (xR (eVar 0) (xR (eVar 5) xNil))))) (tvB (eOp fNe (eCall f_post_after (xR (eVar 0) (xR (eVar 1) (xR (eVar 2) (xR (eVar 4) xNil))))) (eVar 6)))) (sRet (eC (.bool false))) sNext)))
  (sSeq (sFor (itRng1 (eCb fLen (aCons (eRd (eVar 0)) aNil))) (gvName 7) (sSeq (sSet 8 (eCall f_posts_below (xR (eVar 0) (xR (eVar 7) xNil))))
  (sSeq (sSet 9 (eLc [12] (itSeq (eVar 8)) (gvName 12) (tvAnd (tvB (eOp fNotN (eOp fIx (eVar 1) (eVar 12)) (eC .none))) (tvB (eOp (fIn true) (eOp fIx (eVar 1) (eVar 12)) (eVar 2)))) (eOp fIx (eVar 1) (eVar 12))))
  (sSeq (sSet 10 (eLc [12] (itSeq (eVar 8)) (gvName 12) (tvB (eOp fNotN (eOp fIx (eVar 3) (eVar 12)) (eC .none))) (eOp fIx (eVar 3) (eVar 12))))
  (sSeq (sIf (tvB (eOp fNe (eLc [4] (itSeq (eVar 10)) (gvName 4) (tvB (eOp (fIn true) (eVar 4) (eVar 9))) (eVar 4)) (eLst aNil))) (sRet (eC (.bool false))) sNext)
  (sSeq (sSet 11 (eLc [4] (itSeq (eVar 9)) (gvName 4) (tvB (eOp (fIn true) (eVar 4) (eVar 10))) (eVar 4)))
  (sIf (tvAnd (tvB (eOp fNe (eVar 11) (eLst aNil))) (tvAnd (tvB (eOp fNe (eVar 10) (eLst aNil))) (tvB (eOp (fI fun i j => decide (j < i)) (eCb fMaxU (aCons (eRd (eVar 11)) aNil)) (eCb fMinU (aCons (eRd (eVar 10)) aNil)))))) (sRet (eC (.bool false))) sNext)))))))
  (sRet (eC (.bool true))))))
def f_l_positions_right : Fn := fnOf 13 3 b_l_positions_right
theorem fm_nat (h : Nat → Option Nat) (f : PD → Option PD) : ∀ (l : List Nat), (∀ i ∈ l, f (.int (i : Nat)) = (h i).map fun n : Nat => PyData.int (n : Nat)) → (intsD l).filterMap f = intsD (l.filterMap h)
  | [], _ => rfl
  | a :: l, hf => by
    rw [ints_c, List.filterMap_cons, List.filterMap_cons, hf a List.mem_cons_self, fm_nat h f l fun i hi => hf i (List.mem_cons_of_mem _ hi)]
    cases h a <;> rfl
theorem max_ints {l : List Nat} (h : l ≠ []) : ∃ M ∈ l, fMaxU [.list (intsD l)] = some (.d (.int (M : Nat))) ∧ ∀ x ∈ l, x ≤ M := by
  obtain ⟨a, l', rfl⟩ := List.exists_cons_of_ne_nil h
  obtain ⟨h1, h2⟩ := maxI_is (l'.map fun n : Nat => (n : Int)) a
  have e : (a : Int) :: l'.map (fun n : Nat => (n : Int)) = (a :: l').map fun n : Nat => (n : Int) := rfl
  rw [e] at h1 h2
  obtain ⟨M, hM, eM⟩ := List.mem_map.mp h1
  refine ⟨M, hM, ?_, fun x hx => ?_⟩
  · unfold fMaxU
    dsimp only
    rw [intsOf_ints]
    show some (Vl.d (PyData.int (_ : Int))) = _
    rw [← eM]
  · have := h2 x (List.mem_map.mpr ⟨x, hx, rfl⟩)
    omega
theorem min_ints {l : List Nat} (h : l ≠ []) : ∃ M ∈ l, fMinU [.list (intsD l)] = some (.d (.int (M : Nat))) ∧ ∀ x ∈ l, M ≤ x := by
  obtain ⟨a, l', rfl⟩ := List.exists_cons_of_ne_nil h
  obtain ⟨h1, h2⟩ := minI_is (l'.map fun n : Nat => (n : Int)) a
  have e : (a : Int) :: l'.map (fun n : Nat => (n : Int)) = (a :: l').map fun n : Nat => (n : Int) := rfl
  rw [e] at h1 h2
  obtain ⟨M, hM, eM⟩ := List.mem_map.mp h1
  refine ⟨M, hM, ?_, fun x hx => ?_⟩
  · unfold fMinU
    dsimp only
    rw [intsOf_ints]
    show some (Vl.d (PyData.int (_ : Int))) = _
    rw [← eM]
  · have := h2 x (List.mem_map.mpr ⟨x, hx, rfl⟩)
    omega
theorem allLeft_app (t : List Nat) : ∀ (l l' : List Nat) (r : List (Option Nat)), allLeft t r (l ++ l') = allLeft t (allLeft t r l) l'
  | [], l', r => rfl
  | a :: l, l', r => allLeft_app t l l' _
theorem all_arr {t : List Nat} {r : List (Option Nat)} {l : List Nat} (c : Chart t) (a : Arr t r) (h : ∀ n ∈ l, some n ∈ r) (nd : l.Nodup) : Arr t (allLeft t r l) := (leave1_of c l r a h nd).2
theorem w_one_by_one {t : List Nat} {r : List (Option Nat)} {ls : List Nat} (c : Chart t) (lt : t.length < 1000) (a : Arr t r) (h : ∀ n ∈ ls, some n ∈ r) (nd : ls.Nodup) : f_l_one_by_one [.d (chartD t), .d (rowD r), .d (.list (intsD ls))] = some (.d (rowD (allLeft t r ls)), []) := by
  refine ok_fn rfl (ok_seq (ok_for (ρ1 := [.d (chartD t), .d (rowD r), .d (.list (intsD ls)), .emp]) (ds := intsD ls) (by simp) (fun i ρ => ∃ (r' : List (Option Nat)) (x : Sl), Arr t r' ∧ (∀ n ∈ ls.drop i, some n ∈ r') ∧ allLeft t r' (ls.drop i) = allLeft t r ls ∧ ρ = [.d (chartD t), .d (rowD r'), .d (.list (intsD ls)), x]) ⟨r, _, a, h, rfl, rfl⟩ ?_ ?_))
  · rintro i x ρ hi ⟨r', x', a', h', e', rfl⟩
    obtain ⟨n, hn, rfl⟩ := ints_at hi
    have nd2 : (ls.drop i).Nodup := nd.sublist (List.drop_sublist ..)
    obtain ⟨li, e0⟩ := List.getElem?_eq_some_iff.mp hn
    have ed : ls.drop i = n :: ls.drop (i + 1) := by rw [List.drop_eq_getElem_cons li, e0]
    rw [ed] at nd2 h' e'
    have hn' := h' n List.mem_cons_self
    obtain ⟨j, hj, fj⟩ := idx_at hn'
    have lj : j < t.length + 1 := by rw [← a'.len]; exact (List.getElem?_eq_some_iff.mp hj).1
    have hl := w_leave1 c lt a' hn'
    have e1 : allLeft t r' (n :: ls.drop (i + 1)) = allLeft t (leftL t r' (idxOf r' n)) (ls.drop (i + 1)) := rfl
    rw [e1] at e'
    rw [idx_eq hj fj] at hl e'
    have al := left_arr c a' lj
    have lm := left_mem c a' hj
    refine ⟨_, rfl, ok_run (fl := .next) (ρ' := [.d (chartD t), .d (rowD (leftL t r' j)), .d (.list (intsD ls)), .d (.int n)]) (by simp [sSeq_eq, hl, w_check_arr c lt al]) ⟨_, _, al, fun m hm => (lm m).mpr ⟨h' m (List.mem_cons_of_mem _ hm), fun z => ?_⟩, e', rfl⟩⟩
    subst z
    exact (List.nodup_cons.mp nd2).1 hm
  · rintro ρ ⟨r', x', a', h', e', rfl⟩
    rw [ints_len, List.drop_length] at e'
    replace e' : r' = _ := e'
    subst e'
    simp
theorem all_mem {t : List Nat} {r : List (Option Nat)} {l : List Nat} (c : Chart t) (a : Arr t r) (h : ∀ n ∈ l, some n ∈ r) (nd : l.Nodup) (n : Nat) : some n ∈ allLeft t r l ↔ some n ∈ r ∧ n ∉ l := (all_up c l r a h nd).2 n
/-- everybody but the rest of the rest leaves: the same -/
theorem rest_rest {t : List Nat} {r : List (Option Nat)} {ls : List Nat} (c : Chart t) (a : Arr t r) (h : ∀ n ∈ ls, some n ∈ r) (nd : ls.Nodup) {st : List Nat} (hs : ∀ n, some n ∈ r → (n ∈ st ↔ n ∉ ls)) : allLeft t r (restL r st) = allLeft t r ls :=
  all_order c a (fun n hn => (rest_mem.mp hn).1) (rest_nodup a st) nd fun n => by
    rw [rest_mem]
    constructor
    · rintro ⟨h1, h2⟩
      exact Decidable.byContradiction fun z => h2 ((hs n h1).mpr z)
    · exact fun h1 => ⟨h n h1, fun z => (hs n (h n h1)).mp z h1⟩
theorem w_orders_right {t : List Nat} {r : List (Option Nat)} {l1 l2 : List Nat} (c : Chart t) (lt : t.length < 40) (a : Arr t r) (h : ∀ n ∈ l1 ++ l2, some n ∈ r) (nd : (l1 ++ l2).Nodup) (ll : (l1 ++ l2).length ≤ 100) {n : Nat} {g : List PD} (hg : G n g) (hn : n + 300 ≤ 1000000000000) : ∃ g', f_l_orders_right [.m g, .d (chartD t), .d (rowD r), .d (.list (intsD l1)), .d (.list (intsD l2))] = some (.d (.bool true), [g']) ∧ G (n + 300) g' := by
  have l3 : l1.length + l2.length ≤ 100000 := by rw [List.length_append] at ll; omega
  have l4 : l2.length + l1.length ≤ 100000 := by omega
  have app : intsD l1 ++ intsD l2 = intsD (l1 ++ l2) := (ints_app ..).symm
  have app' : intsD l2 ++ intsD l1 = intsD (l2 ++ l1) := (ints_app ..).symm
  have pm : (l2 ++ l1).Perm (l1 ++ l2) := List.perm_append_comm
  have e1 := w_one_by_one c (show t.length < 1000 by omega) a h nd
  have nd2 : (l2 ++ l1).Nodup := pm.nodup_iff.mpr nd
  have h2 : ∀ n ∈ l2 ++ l1, some n ∈ r := fun m hm => h m (pm.mem_iff.mp hm)
  have e2 := w_one_by_one c (show t.length < 1000 by omega) a h2 nd2
  rw [all_order c a h2 nd2 nd (fun m => pm.mem_iff)] at e2
  obtain ⟨l', g2, e3, pm', hg2⟩ := w_shuffled (l := l1 ++ l2) (by omega) hg (by omega)
  have nd3 : l'.Nodup := pm'.nodup_iff.mpr nd
  have h3 : ∀ n ∈ l', some n ∈ r := fun m hm => h m (pm'.mem_iff.mp hm)
  have e4 := w_one_by_one c (show t.length < 1000 by omega) a h3 nd3
  rw [all_order c a h3 nd3 nd (fun m => pm'.mem_iff)] at e4
  have hh := w_held (r := r) (by have := a.len; omega) (xd := rowD r) sq_row
  have al := a.len
  have hl := heldL_len r
  have hmst : ∀ m, m ∈ restL r (l1 ++ l2) ↔ some m ∈ r ∧ m ∉ l1 ++ l2 := fun m => rest_mem
  have ndst := rest_nodup a (l1 ++ l2)
  have lst : (restL r (l1 ++ l2)).length ≤ 100 := by
    have := List.length_filter_le (fun n => !decide (n ∈ l1 ++ l2)) (sortN (heldL r))
    rw [sortN_len] at this
    unfold restL
    omega
  have e5 := lc_eq (vs := [8]) (it := itSeq (eCall f_l_held (xR (eVar 2) xNil))) (gv := gvName 8) (tv := tvB (eOp (fIn true) (eVar 8) (eOp fAdd (eVar 3) (eVar 4)))) (e := eVar 8) (ρ := [.own false g2, .d (chartD t), .d (rowD r), .d (.list (intsD l1)), .d (.list (intsD l2)), .d (rowD (allLeft t r (l1 ++ l2))), .emp, .emp, .emp]) (ρ1 := [.own false g2, .d (chartD t), .d (rowD r), .d (.list (intsD l1)), .d (.list (intsD l2)), .d (rowD (allLeft t r (l1 ++ l2))), .emp, .emp, .emp]) (ds := intsD (sortN (heldL r))) (selD fun x => !decide (x ∈ l1 ++ l2)) (by simp [hh]) (by rw [ints_len, sortN_len]; omega) (fun k x hk => by
    obtain ⟨j, hj, rfl⟩ := ints_at hk
    rw [sel_at]
    by_cases z : j ∈ l1 ++ l2 <;> simp [l3, app, -ints_app, -List.mem_append, z])
  rw [sel_filter] at e5
  change _ = some (Vl.new (intsD (restL r (l1 ++ l2))), _) at e5
  have mst : ∀ n ∈ restL r (l1 ++ l2), some n ∈ r := fun m hm => ((hmst m).mp hm).1
  have e6 := w_reduced c (show t.length < 1000 by omega) a (ls := restL r (l1 ++ l2)) (by omega) mst ndst
  rw [rest_rest c a h nd (fun m hm => by rw [hmst]; exact ⟨fun z => z.2, fun z => ⟨hm, z⟩⟩)] at e6
  obtain ⟨nd1, ndl2, dis⟩ := List.nodup_append.mp nd
  have hl1 : ∀ n ∈ l1, some n ∈ r := fun m hm => h m (List.mem_append_left _ hm)
  have nds2 : (restL r (l1 ++ l2) ++ l2).Nodup := List.nodup_append.mpr ⟨ndst, ndl2, fun x hx y hy e => by
    subst e
    exact ((hmst x).mp hx).2 (List.mem_append_right _ hy)⟩
  have e7 := w_reduced c (show t.length < 1000 by omega) a (ls := restL r (l1 ++ l2) ++ l2) (by rw [List.length_append]; rw [List.length_append] at ll; omega) (fun m hm => by
    rcases List.mem_append.mp hm with z | z
    · exact mst m z
    · exact h m (List.mem_append_right _ z)) nds2
  rw [rest_rest c a hl1 nd1 (fun m hm => by
    rw [List.mem_append, hmst, List.mem_append]
    constructor
    · rintro (z | z)
      · exact fun q => z.2 (.inl q)
      · exact fun q => dis m q m z rfl
    · intro z
      by_cases q : m ∈ l2
      · exact .inr q
      · exact .inl ⟨hm, fun w => w.elim z q⟩)] at e7
  have e8 := w_one_by_one c (show t.length < 1000 by omega) a hl1 nd1
  have am := all_arr c a hl1 nd1
  have mm := all_mem c a hl1 nd1
  have stm : ∀ m ∈ restL r (l1 ++ l2), some m ∈ allLeft t r l1 := fun m hm => (mm m).mpr ⟨mst m hm, fun z => ((hmst m).mp hm).2 (List.mem_append_left _ z)⟩
  have e9 := w_reduced c (show t.length < 1000 by omega) am (ls := restL r (l1 ++ l2)) (by omega) stm ndst
  have hl2 : ∀ n ∈ l2, some n ∈ allLeft t r l1 := fun m hm => (mm m).mpr ⟨h m (List.mem_append_right _ hm), fun z => dis m z m hm rfl⟩
  rw [rest_rest c am hl2 ndl2 (fun m hm => by
    rw [hmst, List.mem_append]
    obtain ⟨h1, h2⟩ := (mm m).mp hm
    exact ⟨fun z q => z.2 (.inr q), fun z => ⟨h1, fun q => q.elim h2 z⟩⟩), ← allLeft_app] at e9
  have l5 : (restL r (l1 ++ l2)).length + l2.length ≤ 100000 := by rw [List.length_append] at ll; omega
  have app2 : intsD (restL r (l1 ++ l2)) ++ intsD l2 = intsD (restL r (l1 ++ l2) ++ l2) := (ints_app ..).symm
  generalize restL r (l1 ++ l2) = st at *
  generalize allLeft t r (l1 ++ l2) = fin at *
  generalize allLeft t r l1 = mid at *
  refine ⟨g2, ok_fn rfl (ok_seq (ok_run (fl := .next) (ρ' := [.own false g, .d (chartD t), .d (rowD r), .d (.list (intsD l1)), .d (.list (intsD l2)), .d (rowD fin), .emp, .emp, .emp]) (by simp [-ints_app, app, l3, e1]) ?_)), hg2.mono (by omega)⟩
  refine ok_seq (ok_run (fl := .next) (ρ' := [.own false g, .d (chartD t), .d (rowD r), .d (.list (intsD l1)), .d (.list (intsD l2)), .d (rowD fin), .emp, .emp, .emp]) (by simp [-ints_app, app', l4, e2]) ?_)
  refine ok_seq (ok_run (fl := .next) (ρ' := [.own false g2, .d (chartD t), .d (rowD r), .d (.list (intsD l1)), .d (.list (intsD l2)), .d (rowD fin), .emp, .emp, .emp]) (by simp [-ints_app, app, l3, e3, e4]) ?_)
  refine ok_seq (ok_run (fl := .next) (ρ' := [.own false g2, .d (chartD t), .d (rowD r), .d (.list (intsD l1)), .d (.list (intsD l2)), .d (rowD fin), .own true (intsD st), .emp, .emp]) (by simp [-eLc_eq, e5]) ?_)
  refine ok_seq (ok_run (fl := .next) (ρ' := [.own false g2, .d (chartD t), .d (rowD r), .d (.list (intsD l1)), .d (.list (intsD l2)), .d (rowD fin), .d (.list (intsD st)), .emp, .emp]) (by simp [e6]) ?_)
  refine ok_seq (ok_run (fl := .next) (ρ' := [.own false g2, .d (chartD t), .d (rowD r), .d (.list (intsD l1)), .d (.list (intsD l2)), .d (rowD fin), .d (.list (intsD st)), .d (rowD mid), .emp]) (by simp [-ints_app, app2, l5, e7]) ?_)
  simp [e8, e9]

end MU

namespace MU
open PySem PySem.Spec L2
theorem posD_lt {t : List Nat} {r : List (Option Nat)} (a : Arr t r) {i m : Nat} (h : r[i]? = some (some m)) : posD r m = .int i := pos_at h fun j l e => by
  have := a.inj j i m e h
  omega
/-- who of some posts' holders is not among some people -/
def outL (r : List (Option Nat)) (ls : List Nat) (l : List Nat) : List Nat := l.filterMap fun i => match r[i]? with
  | some (some n) => if n ∈ ls then none else some n
  | _ => none
theorem out_mem {r : List (Option Nat)} {ls l : List Nat} {n : Nat} : n ∈ outL r ls l ↔ ∃ i ∈ l, r[i]? = some (some n) ∧ n ∉ ls := by
  unfold outL
  rw [List.mem_filterMap]
  constructor
  · rintro ⟨i, hi, e⟩
    split at e
    · rename_i m hm
      split at e
      · cases e
      · rename_i z
        cases e
        exact ⟨i, hi, hm, z⟩
    · cases e
  · rintro ⟨i, hi, e, z⟩
    exact ⟨i, hi, by rw [e]; exact if_neg z⟩
theorem out_len {r : List (Option Nat)} {ls l : List Nat} : (outL r ls l).length ≤ l.length := List.length_filterMap_le ..
theorem belowL_len (t : List Nat) (q : Nat) : (belowL t q).length ≤ t.length + 1 := by
  have := List.length_filter_le (fun j => decide (q ∈ way t j)) (List.range (t.length + 1))
  rwa [List.length_range] at this
theorem filt_keep {l : List Nat} {p : Nat → Bool} (h : ∀ x ∈ l, p x = true) : l.filter p = l := List.filter_eq_self.mpr h
theorem filt_no {l : List Nat} {p : Nat → Bool} (h : ∀ x ∈ l, p x = false) : l.filter p = [] := List.filter_eq_nil_iff.mpr fun x hx => by rw [h x hx]; exact Bool.false_ne_true
/-- whom people below a post pass is more junior -/
theorem passed_lt {t : List Nat} {r f : List (Option Nat)} (c : Chart t) (ar : Arr t r) (af : Arr t f) (up : Up t r f) {p i n j m : Nat} (hi : r[i]? = some (some n)) (pi : p ∈ way t i) (hn : some n ∈ f) (no : ∀ k, f[k]? = some (some n) → p ∉ way t k) (hj : f[j]? = some (some m)) (pj : p ∈ way t j) : n < m := by
  obtain ⟨k, hk⟩ := List.mem_iff_getElem?.mp hn
  obtain ⟨i', hi', ki⟩ := up n k hk
  have ei := ar.inj i' i n hi' hi
  subst ei
  have li : i' < t.length + 1 := by rw [← ar.len]; exact (List.getElem?_eq_some_iff.mp hi).1
  have lj : j < t.length + 1 := by rw [← af.len]; exact (List.getElem?_eq_some_iff.mp hj).1
  have kp : k ∈ way t p := (way_comp c i' li k p ki pi).elim id fun z => absurd z (no k hk)
  have kj : k ∈ way t j := way_up c j lj k p kp pj
  obtain ⟨m', hm', lm⟩ := heap_way c af j lj m k hj kj
  rw [hk] at hm'
  cases hm'
  have : n ≠ m := fun z => by
    subst z
    have := af.inj k j n hk hj
    subst this
    exact no k hk pj
  omega
theorem cell_in (c : Option Nat) (l : List Nat) (neg : Bool) : fIn neg (cellD c) (.list (intsD l)) = some (.d (.bool (match c with | some n => if neg then !decide (n ∈ l) else decide (n ∈ l) | none => neg))) := by
  cases c with
  | some n => exact in_ints l n neg
  | none =>
    have e : ((intsD l).any fun z => PyData.eqv z .none) = false := by
      rw [List.any_eq_false]
      intro x hx
      obtain ⟨n, _, rfl⟩ := List.mem_map.mp hx
      simp [PyData.eqv]
    rw [fIn_l, if_pos (by simp [cellD, flat_ints])]
    simp only [cellD, e]
    cases neg <;> rfl
theorem w_positions {t : List Nat} {r : List (Option Nat)} {ls : List Nat} (c : Chart t) (lt : t.length < 40) (a : Arr t r) (h : ∀ n ∈ ls, some n ∈ r) (nd : ls.Nodup) (ll : ls.length ≤ 100) : f_l_positions_right [.d (chartD t), .d (rowD r), .d (.list (intsD ls))] = some (.d (.bool true), []) := by
  have e1 := w_one_by_one c (show t.length < 1000 by omega) a h nd
  have am := all_arr c a h nd
  obtain ⟨up, mm⟩ := all_up c ls r a h nd
  have al := a.len
  have aml := am.len
  have hh := w_held (r := allLeft t r ls) (by omega) (xd := rowD _) sq_row
  have lok : ∀ n, some n ∈ allLeft t r ls → LeaveOk t r ls n := fun n hn => ⟨a, h, nd, ((mm n).mp hn).1, ((mm n).mp hn).2⟩
  have hpa : ∀ n, some n ∈ allLeft t r ls → f_post_after [.d (chartD t), .d (rowD r), .d (.list (intsD ls)), .d (.int n)] = some (.d (.int (idxOf (allLeft t r ls) n)), []) := fun n hn => w_post_after c (by omega) (lok n hn) (by omega)
  generalize allLeft t r ls = f at *
  refine ok_fn rfl (ok_seq (ok_run (fl := .next) (ρ' := [.d (chartD t), .d (rowD r), .d (.list (intsD ls)), .d (rowD f), .emp, .emp, .emp, .emp, .emp, .emp, .emp, .emp, .emp]) (by simp [e1]) ?_))
  refine ok_seq (ok_for (ρ1 := [.d (chartD t), .d (rowD r), .d (.list (intsD ls)), .d (rowD f), .emp, .emp, .emp, .emp, .emp, .emp, .emp, .emp, .emp]) (ds := intsD (sortN (heldL f))) (by simp [hh]) (fun _ ρ => ∃ x4 x5 x6, ρ = [.d (chartD t), .d (rowD r), .d (.list (intsD ls)), .d (rowD f), x4, x5, x6, .emp, .emp, .emp, .emp, .emp, .emp]) ⟨_, _, _, rfl⟩ ?_ ?_)
  · rintro i x ρ hi ⟨x4, x5, x6, rfl⟩
    obtain ⟨n, hn, rfl⟩ := ints_at hi
    have nf : some n ∈ f := heldL_mem.mp (sortN_mem.mp (List.mem_of_getElem? hn))
    obtain ⟨j', hj', fj'⟩ := idx_at nf
    obtain ⟨j, hj, jw⟩ := up n j' hj'
    have p1 := w_post_of c (show t.length < 1000 by omega) a n
    have p2 := w_post_of c (show t.length < 1000 by omega) am n
    have lj : j < t.length + 1 := by rw [← al]; exact (List.getElem?_eq_some_iff.mp hj).1
    rw [posD_lt a hj] at p1
    rw [posD_lt am hj'] at p2
    have p3 := w_path_to c (show t.length < 1000 by omega) lj
    have p4 := hpa n nf
    rw [idx_eq hj' fj'] at p4
    exact ⟨_, rfl, ok_run (fl := .next) (ρ' := [.d (chartD t), .d (rowD r), .d (.list (intsD ls)), .d (rowD f), .d (.int n), .d (.int j), .d (.int j'), .emp, .emp, .emp, .emp, .emp, .emp]) (by simp [sSeq_eq, p1, p2, p3, p4, jw]) ⟨_, _, _, rfl⟩⟩
  rintro ρ ⟨x4, x5, x6, rfl⟩
  simp only [thenP_next]
  refine ok_seq (ok_for (ρ1 := [.d (chartD t), .d (rowD r), .d (.list (intsD ls)), .d (rowD f), x4, x5, x6, .emp, .emp, .emp, .emp, .emp, .emp]) (ds := rngD 0 (t.length + 1)) (by simp [rng_n1 (show t.length < 1000 by omega)]) (fun _ ρ => ∃ x7 x8 x9 x10 x11, ρ = [.d (chartD t), .d (rowD r), .d (.list (intsD ls)), .d (rowD f), x4, x5, x6, x7, x8, x9, x10, x11, .emp]) ⟨_, _, _, _, _, rfl⟩ ?_ ?_)
  · rintro p x ρ hp ⟨x7, x8, x9, x10, x11, rfl⟩
    obtain ⟨lp, rfl⟩ := rng_at hp
    rw [Int.zero_add]
    have pb := w_posts_below c (show t.length < 63 by omega) lp
    have bl := belowL_len t p
    have blt : ∀ i ∈ belowL t p, i < t.length + 1 ∧ p ∈ way t i := fun i hi => below_mem.mp hi
    have bm : ∀ i, i < t.length + 1 → p ∈ way t i → i ∈ belowL t p := fun i h1 h2 => below_mem.mpr ⟨h1, h2⟩
    generalize belowL t p = bs at pb bl blt bm
    have bo := out_len (r := r) (ls := ls) (l := bs)
    have ao := out_len (r := f) (ls := []) (l := bs)
    have mb : ∀ n, n ∈ outL r ls bs ↔ ∃ i ∈ bs, r[i]? = some (some n) ∧ n ∉ ls := fun n => out_mem
    have ma : ∀ n, n ∈ outL f [] bs ↔ ∃ i ∈ bs, f[i]? = some (some n) := fun n => out_mem.trans (by simp)
    have e9 := lc_eq (vs := [12]) (it := itSeq (eVar 8)) (gv := gvName 12) (tv := tvAnd (tvB (eOp fNotN (eOp fIx (eVar 1) (eVar 12)) (eC .none))) (tvB (eOp (fIn true) (eOp fIx (eVar 1) (eVar 12)) (eVar 2)))) (e := eOp fIx (eVar 1) (eVar 12)) (ρ := [.d (chartD t), .d (rowD r), .d (.list (intsD ls)), .d (rowD f), x4, x5, x6, .d (.int p), .own true (intsD bs), x9, x10, x11, .emp]) (ρ1 := [.d (chartD t), .d (rowD r), .d (.list (intsD ls)), .d (rowD f), x4, x5, x6, .d (.int p), .d (.list (intsD bs)), x9, x10, x11, .emp]) (ds := intsD bs) (fun d => match d with | .int z => (match (r[z.toNat]?) with | some (some n) => (if n ∈ ls then none else some (.int (n : Nat))) | _ => none) | _ => none) (by simp) (by rw [ints_len]; omega) (fun k x hk => by
      obtain ⟨i, hi, rfl⟩ := ints_at hk
      have li := (blt i (List.mem_of_getElem? hi)).1
      obtain ⟨cc, hc⟩ := row_has (r := r) (k := i) (by omega)
      have h1 := at_nat (row_at hc)
      cases cc with
      | none => simp [h1, hc, cellD]
      | some n => by_cases z : n ∈ ls <;> simp [h1, hc, cellD, z])
    rw [fm_nat (fun i => match r[i]? with | some (some n) => if n ∈ ls then none else some n | _ => none) _ bs (fun i _ => by
      simp only [Int.toNat_natCast]
      split
      · split <;> rfl
      · rfl)] at e9
    change _ = some (Vl.new (intsD (outL r ls bs)), _) at e9
    have e10 := lc_eq (vs := [12]) (it := itSeq (eVar 8)) (gv := gvName 12) (tv := tvB (eOp fNotN (eOp fIx (eVar 3) (eVar 12)) (eC .none))) (e := eOp fIx (eVar 3) (eVar 12)) (ρ := [.d (chartD t), .d (rowD r), .d (.list (intsD ls)), .d (rowD f), x4, x5, x6, .d (.int p), .d (.list (intsD bs)), .own true (intsD (outL r ls bs)), x10, x11, .emp]) (ρ1 := [.d (chartD t), .d (rowD r), .d (.list (intsD ls)), .d (rowD f), x4, x5, x6, .d (.int p), .d (.list (intsD bs)), .own true (intsD (outL r ls bs)), x10, x11, .emp]) (ds := intsD bs) (fun d => match d with | .int z => (match (f[z.toNat]?) with | some (some n) => some (.int (n : Nat)) | _ => none) | _ => none) (by simp) (by rw [ints_len]; omega) (fun k x hk => by
      obtain ⟨i, hi, rfl⟩ := ints_at hk
      have li := (blt i (List.mem_of_getElem? hi)).1
      obtain ⟨cc, hc⟩ := row_has (r := f) (k := i) (by omega)
      have h1 := at_nat (row_at hc)
      cases cc with
      | none => simp [h1, hc, cellD]
      | some n => simp [h1, hc, cellD])
    rw [fm_nat (fun i => match f[i]? with | some (some n) => if n ∈ ([] : List Nat) then none else some n | _ => none) _ bs (fun i _ => by
      simp only [Int.toNat_natCast]
      split
      · rename_i n _
        rw [if_neg (by simp)]; rfl
      · rfl)] at e10
    change _ = some (Vl.new (intsD (outL f [] bs)), _) at e10
    have ain : ∀ n ∈ outL f [] bs, n ∈ outL r ls bs := fun n hn => by
      obtain ⟨i, hi, e⟩ := (ma n).mp hn
      obtain ⟨j, hj, ij⟩ := up n i e
      have lj : j < t.length + 1 := by rw [← al]; exact (List.getElem?_eq_some_iff.mp hj).1
      exact (mb n).mpr ⟨j, bm j lj (way_up c j lj p i (blt i hi).2 ij), hj, ((mm n).mp (List.mem_of_getElem? e)).2⟩
    have pass : ∀ n ∈ outL r ls bs, n ∉ outL f [] bs → ∀ m ∈ outL f [] bs, n < m := fun n hn nn m hm => by
      obtain ⟨i, hi, e, z⟩ := (mb n).mp hn
      obtain ⟨j, hj, e2⟩ := (ma m).mp hm
      exact passed_lt c a am up e (blt i hi).2 ((mm n).mpr ⟨List.mem_of_getElem? e, z⟩) (fun k hk q => nn ((ma n).mpr ⟨k, bm k (by rw [← aml]; exact (List.getElem?_eq_some_iff.mp hk).1) q, hk⟩)) e2 (blt j hj).2
    generalize outL r ls bs = B at *
    generalize outL f [] bs = A at *
    refine ⟨_, rfl, ok_seq (ok_run (fl := .next) (ρ' := [.d (chartD t), .d (rowD r), .d (.list (intsD ls)), .d (rowD f), x4, x5, x6, .d (.int p), .own true (intsD bs), x9, x10, x11, .emp]) (by simp [pb]) ?_)⟩
    refine ok_seq (ok_run (fl := .next) (ρ' := [.d (chartD t), .d (rowD r), .d (.list (intsD ls)), .d (rowD f), x4, x5, x6, .d (.int p), .d (.list (intsD bs)), .own true (intsD B), x10, x11, .emp]) (by simp [-eLc_eq, e9]) ?_)
    refine ok_seq (ok_run (fl := .next) (ρ' := [.d (chartD t), .d (rowD r), .d (.list (intsD ls)), .d (rowD f), x4, x5, x6, .d (.int p), .d (.list (intsD bs)), .own true (intsD B), .own true (intsD A), x11, .emp]) (by simp [-eLc_eq, e10]) ?_)
    have e11 := lc_eq (vs := [4]) (it := itSeq (eVar 10)) (gv := gvName 4) (tv := tvB (eOp (fIn true) (eVar 4) (eVar 9))) (e := eVar 4) (ρ := [.d (chartD t), .d (rowD r), .d (.list (intsD ls)), .d (rowD f), x4, x5, x6, .d (.int p), .d (.list (intsD bs)), .own true (intsD B), .own true (intsD A), x11, .emp]) (ρ1 := [.d (chartD t), .d (rowD r), .d (.list (intsD ls)), .d (rowD f), x4, x5, x6, .d (.int p), .d (.list (intsD bs)), .own true (intsD B), .d (.list (intsD A)), x11, .emp]) (ds := intsD A) (selD fun x => !decide (x ∈ B)) (by simp) (by rw [ints_len]; omega) (fun k x hk => by
      obtain ⟨j, hj, rfl⟩ := ints_at hk
      rw [sel_at]
      by_cases z : j ∈ B <;> simp [z])
    rw [sel_filter, filt_no (fun x hx => by rw [decide_eq_true (ain x hx)]; rfl)] at e11
    refine ok_seq (ok_run (fl := .next) (ρ' := [.d (chartD t), .d (rowD r), .d (.list (intsD ls)), .d (rowD f), x4, x5, x6, .d (.int p), .d (.list (intsD bs)), .own true (intsD B), .d (.list (intsD A)), x11, .emp]) (by simp [-eLc_eq, e11]) ?_)
    have e12 := lc_eq (vs := [4]) (it := itSeq (eVar 9)) (gv := gvName 4) (tv := tvB (eOp (fIn true) (eVar 4) (eVar 10))) (e := eVar 4) (ρ := [.d (chartD t), .d (rowD r), .d (.list (intsD ls)), .d (rowD f), x4, x5, x6, .d (.int p), .d (.list (intsD bs)), .own true (intsD B), .d (.list (intsD A)), x11, .emp]) (ρ1 := [.d (chartD t), .d (rowD r), .d (.list (intsD ls)), .d (rowD f), x4, x5, x6, .d (.int p), .d (.list (intsD bs)), .d (.list (intsD B)), .d (.list (intsD A)), x11, .emp]) (ds := intsD B) (selD fun x => !decide (x ∈ A)) (by simp) (by rw [ints_len]; omega) (fun k x hk => by
      obtain ⟨j, hj, rfl⟩ := ints_at hk
      rw [sel_at]
      by_cases z : j ∈ A <;> simp [z])
    rw [sel_filter] at e12
    have pm : ∀ n ∈ B.filter (fun x => !decide (x ∈ A)), ∀ m ∈ A, n < m := fun n hn m hm => by
      obtain ⟨h1, h2⟩ := List.mem_filter.mp hn
      exact pass n h1 (fun z => by rw [decide_eq_true z] at h2; cases h2) m hm
    generalize B.filter (fun x => !decide (x ∈ A)) = P at e12 pm
    refine ok_seq (ok_run (fl := .next) (ρ' := [.d (chartD t), .d (rowD r), .d (.list (intsD ls)), .d (rowD f), x4, x5, x6, .d (.int p), .d (.list (intsD bs)), .d (.list (intsD B)), .d (.list (intsD A)), .own true (intsD P), .emp]) (by simp [-eLc_eq, e12]) ?_)
    by_cases hP : P = []
    · exact ok_run (fl := .next) (ρ' := [.d (chartD t), .d (rowD r), .d (.list (intsD ls)), .d (rowD f), x4, x5, x6, .d (.int p), .d (.list (intsD bs)), .d (.list (intsD B)), .d (.list (intsD A)), .own true (intsD P), .emp]) (by simp [hP]) ⟨_, _, _, _, _, rfl⟩
    · by_cases hA : A = []
      · exact ok_run (fl := .next) (ρ' := [.d (chartD t), .d (rowD r), .d (.list (intsD ls)), .d (rowD f), x4, x5, x6, .d (.int p), .d (.list (intsD bs)), .d (.list (intsD B)), .d (.list (intsD A)), .own true (intsD P), .emp]) (by simp [hP, hA]) ⟨_, _, _, _, _, rfl⟩
      · obtain ⟨M, hM, eM, _⟩ := max_ints hP
        obtain ⟨N, hN, eN, _⟩ := min_ints hA
        have l1 := pm M hM N hN
        have l2 : ¬ (N : Int) < (M : Int) := by omega
        exact ok_run (fl := .next) (ρ' := [.d (chartD t), .d (rowD r), .d (.list (intsD ls)), .d (rowD f), x4, x5, x6, .d (.int p), .d (.list (intsD bs)), .d (.list (intsD B)), .d (.list (intsD A)), .own true (intsD P), .emp]) (by simp [hP, hA, eM, eN, l2]) ⟨_, _, _, _, _, rfl⟩
  · rintro ρ ⟨x7, x8, x9, x10, x11, rfl⟩
    simp

end MU

namespace MU
open PySem PySem.Spec L2
def b_law_6 : Sv :=
  (sSeq (sFor (itRng1 (eC (.int 3))) (gvName 1) (sSeq (sSet 2 (eCall f_l_generator (xR (eVar 0) (xR (eVar 1) xNil))))
  (sSeq (sSet 3 (eOp fAdd (eCall f_l_random_chart (xM (eVar 2) (xR (eC (.int 11)) xNil))) (eTup (aCons (eDat (eC (.int 0))) aNil))))
  (sFor (itRng1 (eC (.int 3))) (gvName 4) (sSeq (sSet 5 (eCall f_l_random_rows (xM (eVar 2) (xR (eVar 3) xNil))))
  (sSeq (sSet 6 (eCall f_l_some (xM (eVar 2) (xR (eCall f_l_held (xR (eVar 5) xNil)) xNil))))
  (sSeq (sSet 7 (eCall f_l_random (xM (eVar 2) (xR (eOp fAdd (eCb fLen (aCons (eRd (eVar 6)) aNil)) (eC (.int 1))) xNil))))
  (sSeq (sIf (tvNot (tvB (eCall f_l_orders_right (xM (eVar 2) (xR (eVar 3) (xR (eVar 5) (xR (eSl (eVar 6) oNo (oSome (eVar 7))) (xR (eSl (eVar 6) (oSome (eVar 7)) oNo) xNil)))))))) (sRet (eC (.bool false))) sNext)
  (sIf (tvNot (tvB (eCall f_l_positions_right (xR (eVar 3) (xR (eVar 5) (xR (eVar 6) xNil)))))) (sRet (eC (.bool false))) sNext)))))))))
  (sRet (eC (.bool true))))
def f_law_6 : Fn := fnOf 8 1 b_law_6
theorem chart_zero {t : List Nat} : fAdd (chartD t) (.tuple [.int 0]) = if t.length + 1 + 1 ≤ 100000 then some (.d (chartD (t ++ [0]))) else none := by
  show (if (chartL t).length + [PyData.int 0].length ≤ 100000 then some (Vl.d (.tuple (chartL t ++ [PyData.int 0]))) else none) = _
  rw [chart_len]
  have e := chartL_more t 0
  simp only [Int.cast_ofNat_Int] at e
  rw [← e]
  rfl
theorem law_true {ns : List Int} (hl : ns.length ≤ 63) : f_law_6 [.d (.list (ns.map .int))] = some (.d (.bool true), []) := by
  refine ok_fn rfl (ok_seq (ok_for (ρ1 := [.d (.list (ns.map .int)), .emp, .emp, .emp, .emp, .emp, .emp, .emp]) (ds := rngD 0 3) (by simp; decide) (fun _ ρ => ∃ x1 x2 x3 x4 x5 x6 x7, ρ = [.d (.list (ns.map .int)), x1, x2, x3, x4, x5, x6, x7]) ⟨_, _, _, _, _, _, _, rfl⟩ ?_ ?_))
  · rintro k x ρ hk ⟨x1, x2, x3, x4, x5, x6, x7, rfl⟩
    obtain ⟨lk, rfl⟩ := rng_at hk
    rw [Int.zero_add]
    obtain ⟨g0, e0, hg0⟩ := w_generator (ns := ns) (i := k) (by omega)
    obtain ⟨t0, g1, e1, ct0, lt0, hg1⟩ := w_random_chart (hg0.mono (m := 4000) (by omega)) (by omega) (m := 11) (by omega) (by omega)
    simp only [Int.cast_ofNat_Int] at e1
    have l0 : t0.length + 1 + 1 ≤ 100000 := by omega
    have ct := chart_more ct0 (Nat.zero_le t0.length)
    refine ⟨_, rfl, ok_seq (ok_run (fl := .next) (ρ' := [.d (.list (ns.map .int)), .d (.int k), .own true g0, x3, x4, x5, x6, x7]) (by simp [e0]) (ok_seq (ok_run (fl := .next) (ρ' := [.d (.list (ns.map .int)), .d (.int k), .own true g1, .d (chartD (t0 ++ [0])), x4, x5, x6, x7]) (by simp [e1, chart_zero, l0]) ?_)))⟩
    have lt : (t0 ++ [0]).length ≤ 12 := by simp; omega
    generalize t0 ++ [0] = t at ct lt
    refine ok_for (ρ1 := [.d (.list (ns.map .int)), .d (.int k), .own true g1, .d (chartD t), x4, x5, x6, x7]) (ds := rngD 0 3) (by simp; decide) (fun i ρ => ∃ (g : List PD) (x4 x5 x6 x7 : Sl), G (5000 + 2000 * i) g ∧ ρ = [.d (.list (ns.map .int)), .d (.int k), .own true g, .d (chartD t), x4, x5, x6, x7]) ⟨g1, x4, x5, x6, x7, hg1.mono (by omega), rfl⟩ ?_ ?_
    · rintro i x ρ hi ⟨g, y4, y5, y6, y7, hg, rfl⟩
      obtain ⟨li, rfl⟩ := rng_at hi
      rw [Int.zero_add]
      obtain ⟨r, g2, e2, ar, top, hg2⟩ := w_rows ct (by omega) hg (by omega)
      have arl := ar.len
      have hlen := heldL_len r
      have slen := sortN_len (heldL r)
      have hh := w_held (r := r) (by omega) (xd := rowD r) sq_row
      obtain ⟨l', g3, e3, sub, nd, l3, hg3⟩ := w_some (l := sortN (heldL r)) (by omega) hg2 (by omega)
      have hp : ∀ m ∈ l', some m ∈ r := fun m hm => heldL_mem.mp (sortN_mem.mp (sub m hm))
      have ndl := nd (sortN_nodup (held_nodup ar))
      obtain ⟨q, g4, e4, lq, hg4⟩ := w_random hg3 (by omega) (b := (l'.length : Int) + 1) (by omega) (by omega)
      have etd : l'.take q ++ l'.drop q = l' := List.take_append_drop ..
      obtain ⟨g5, e5, hg5⟩ := w_orders_right (l1 := l'.take q) (l2 := l'.drop q) ct (by omega) ar (by rw [etd]; exact hp) (by rw [etd]; exact ndl) (by rw [etd]; omega) hg4 (by omega)
      have e6 := w_positions ct (by omega) ar hp ndl (by omega)
      refine ⟨_, rfl, ok_seq (ok_run (fl := .next) (ρ' := [.d (.list (ns.map .int)), .d (.int k), .own true g2, .d (chartD t), .d (.int i), .d (rowD r), y6, y7]) (by simp [e2]) ?_)⟩
      refine ok_seq (ok_run (fl := .next) (ρ' := [.d (.list (ns.map .int)), .d (.int k), .own true g3, .d (chartD t), .d (.int i), .d (rowD r), .own true (intsD l'), y7]) (by simp [hh, e3]) ?_)
      refine ok_seq (ok_run (fl := .next) (ρ' := [.d (.list (ns.map .int)), .d (.int k), .own true g4, .d (chartD t), .d (.int i), .d (rowD r), .own true (intsD l'), .d (.int q)]) (by simp [e4]) ?_)
      refine ok_seq (ok_run (fl := .next) (ρ' := [.d (.list (ns.map .int)), .d (.int k), .own true g5, .d (chartD t), .d (.int i), .d (rowD r), .own true (intsD l'), .d (.int q)]) (by simp [cut_to, cut_from, ints_take, ints_drop, e5]) ?_)
      exact ok_run (fl := .next) (ρ' := [.d (.list (ns.map .int)), .d (.int k), .own true g5, .d (chartD t), .d (.int i), .d (rowD r), .own true (intsD l'), .d (.int q)]) (by simp [e6]) ⟨g5, _, _, _, _, hg5.mono (by omega), rfl⟩
    · rintro ρ ⟨g, y4, y5, y6, y7, hg, rfl⟩
      exact ⟨_, _, _, _, _, _, _, rfl⟩
  · rintro ρ ⟨x1, x2, x3, x4, x5, x6, x7, rfl⟩
    simp

end MU
namespace Law
open PySem PySem.Spec L2 MU

def top (i : Nat) : Stmt := PySem.Challenge.pw_movingup_k80_whole_departures_in_any_ord.main.body.getD i (.Pass ⟨0, 0, 0, 0⟩)
abbrev s_l_cell : Stmt := top 41
abbrev N_l_cell : List Str := ["_law_script", "_law_index"]
abbrev P_l_cell : List Str := ["_law_script", "_law_index"]
theorem sc_l_cell : FnScope N_l_cell P_l_cell (defScope s_l_cell) := ⟨rfl, rfl, rfl, by decide +kernel, rfl, by decide +kernel, by decide +kernel⟩
abbrev s_l_hash : Stmt := top 42
abbrev N_l_hash : List Str := ["_law_seed", "_law_index", "_law_mixed"]
abbrev P_l_hash : List Str := ["_law_seed", "_law_index"]
theorem sc_l_hash : FnScope N_l_hash P_l_hash (defScope s_l_hash) := ⟨rfl, rfl, rfl, by decide +kernel, rfl, by decide +kernel, by decide +kernel⟩
abbrev s_l_open : Stmt := top 48
abbrev N_l_open : List Str := ["_law_tree", "_law_rows", "_law_found", "_law_place", "_law_upper"]
abbrev P_l_open : List Str := ["_law_tree", "_law_rows"]
theorem sc_l_open : FnScope N_l_open P_l_open (defScope s_l_open) := ⟨rfl, rfl, rfl, by decide +kernel, rfl, by decide +kernel, by decide +kernel⟩
abbrev s_l_held : Stmt := top 51
abbrev N_l_held : List Str := ["_law_rows", "_law_name"]
abbrev P_l_held : List Str := ["_law_rows"]
theorem sc_l_held : FnScope N_l_held P_l_held (defScope s_l_held) := ⟨rfl, rfl, rfl, by decide +kernel, rfl, by decide +kernel, by decide +kernel⟩
abbrev s_is_whole : Stmt := top 8
abbrev N_is_whole : List Str := ["value"]
abbrev P_is_whole : List Str := ["value"]
theorem sc_is_whole : FnScope N_is_whole P_is_whole (defScope s_is_whole) := ⟨rfl, rfl, rfl, by decide +kernel, rfl, by decide +kernel, by decide +kernel⟩
abbrev s_may_stand_below : Stmt := top 28
abbrev N_may_stand_below : List Str := ["person", "above"]
abbrev P_may_stand_below : List Str := ["person", "above"]
theorem sc_may_stand_below : FnScope N_may_stand_below P_may_stand_below (defScope s_may_stand_below) := ⟨rfl, rfl, rfl, by decide +kernel, rfl, by decide +kernel, by decide +kernel⟩
abbrev s_posts_under : Stmt := top 14
abbrev N_posts_under : List Str := ["chart", "under", "k"]
abbrev P_posts_under : List Str := ["chart"]
theorem sc_posts_under : FnScope N_posts_under P_posts_under (defScope s_posts_under) := ⟨rfl, rfl, rfl, by decide +kernel, rfl, by decide +kernel, by decide +kernel⟩
abbrev s_next_in_line : Stmt := top 17
abbrev N_next_in_line : List Str := ["under", "holders", "post", "held", "k"]
abbrev P_next_in_line : List Str := ["under", "holders", "post"]
theorem sc_next_in_line : FnScope N_next_in_line P_next_in_line (defScope s_next_in_line) := ⟨rfl, rfl, rfl, by decide +kernel, rfl, by decide +kernel, by decide +kernel⟩
abbrev s_people_of : Stmt := top 15
abbrev N_people_of : List Str := ["arrangement", "person"]
abbrev P_people_of : List Str := ["arrangement"]
theorem sc_people_of : FnScope N_people_of P_people_of (defScope s_people_of) := ⟨rfl, rfl, rfl, by decide +kernel, rfl, by decide +kernel, by decide +kernel⟩
abbrev s_place_of : Stmt := top 16
abbrev N_place_of : List Str := ["arrangement", "person"]
abbrev P_place_of : List Str := ["arrangement", "person"]
theorem sc_place_of : FnScope N_place_of P_place_of (defScope s_place_of) := ⟨rfl, rfl, rfl, by decide +kernel, rfl, by decide +kernel, by decide +kernel⟩
abbrev s_way_down : Stmt := top 13
abbrev N_way_down : List Str := ["chart", "post", "way"]
abbrev P_way_down : List Str := ["chart", "post"]
theorem sc_way_down : FnScope N_way_down P_way_down (defScope s_way_down) := ⟨rfl, rfl, rfl, by decide +kernel, rfl, by decide +kernel, by decide +kernel⟩
abbrev s_l_generator : Stmt := top 43
abbrev N_l_generator : List Str := ["_law_script", "_law_index", "_law_seed"]
abbrev P_l_generator : List Str := ["_law_script", "_law_index"]
theorem sc_l_generator : FnScope N_l_generator P_l_generator (defScope s_l_generator) := ⟨rfl, rfl, rfl, by decide +kernel, rfl, by decide +kernel, by decide +kernel⟩
abbrev s_l_random : Stmt := top 44
abbrev N_l_random : List Str := ["_law_generator_here", "_law_bound", "_law_drawn", "_law_part"]
abbrev P_l_random : List Str := ["_law_generator_here", "_law_bound"]
theorem sc_l_random : FnScope N_l_random P_l_random (defScope s_l_random) := ⟨rfl, rfl, rfl, by decide +kernel, rfl, by decide +kernel, by decide +kernel⟩
abbrev s_is_post : Stmt := top 11
abbrev N_is_post : List Str := ["value", "count"]
abbrev P_is_post : List Str := ["value", "count"]
theorem sc_is_post : FnScope N_is_post P_is_post (defScope s_is_post) := ⟨rfl, rfl, rfl, by decide +kernel, rfl, by decide +kernel, by decide +kernel⟩
abbrev s_is_amount : Stmt := top 9
abbrev N_is_amount : List Str := ["value"]
abbrev P_is_amount : List Str := ["value"]
theorem sc_is_amount : FnScope N_is_amount P_is_amount (defScope s_is_amount) := ⟨rfl, rfl, rfl, by decide +kernel, rfl, by decide +kernel, by decide +kernel⟩
abbrev s_depart : Stmt := top 18
abbrev N_depart : List Str := ["under", "holders", "person", "moves", "vacant", "lower"]
abbrev P_depart : List Str := ["under", "holders", "person"]
theorem sc_depart : FnScope N_depart P_depart (defScope s_depart) := ⟨rfl, rfl, rfl, by decide +kernel, rfl, by decide +kernel, by decide +kernel⟩
abbrev s_l_random_chart : Stmt := top 46
abbrev N_l_random_chart : List Str := ["_law_generator_here", "_law_most", "_law_size", "_law_kind", "_law_tree", "_law_place", "_law_upper"]
abbrev P_l_random_chart : List Str := ["_law_generator_here", "_law_most"]
theorem sc_l_random_chart : FnScope N_l_random_chart P_l_random_chart (defScope s_l_random_chart) := ⟨rfl, rfl, rfl, by decide +kernel, rfl, by decide +kernel, by decide +kernel⟩
abbrev s_l_filled : Stmt := top 49
abbrev N_l_filled : List Str := ["_law_generator_here", "_law_tree", "_law_names_here", "_law_rows", "_law_name", "_law_free"]
abbrev P_l_filled : List Str := ["_law_generator_here", "_law_tree", "_law_names_here"]
theorem sc_l_filled : FnScope N_l_filled P_l_filled (defScope s_l_filled) := ⟨rfl, rfl, rfl, by decide +kernel, rfl, by decide +kernel, by decide +kernel⟩
abbrev s_l_names : Stmt := top 47
abbrev N_l_names : List Str := ["_law_generator_here", "_law_count", "_law_kind", "_law_names_here", "_law_name", "_law_index"]
abbrev P_l_names : List Str := ["_law_generator_here", "_law_count"]
theorem sc_l_names : FnScope N_l_names P_l_names (defScope s_l_names) := ⟨rfl, rfl, rfl, by decide +kernel, rfl, by decide +kernel, by decide +kernel⟩
abbrev s_l_shuffled : Stmt := top 45
abbrev N_l_shuffled : List Str := ["_law_generator_here", "_law_items", "_law_pool", "_law_item"]
abbrev P_l_shuffled : List Str := ["_law_generator_here", "_law_items"]
theorem sc_l_shuffled : FnScope N_l_shuffled P_l_shuffled (defScope s_l_shuffled) := ⟨rfl, rfl, rfl, by decide +kernel, rfl, by decide +kernel, by decide +kernel⟩
abbrev s_check_chart : Stmt := top 21
abbrev N_check_chart : List Str := ["value", "k"]
abbrev P_check_chart : List Str := ["value"]
theorem sc_check_chart : FnScope N_check_chart P_check_chart (defScope s_check_chart) := ⟨rfl, rfl, rfl, by decide +kernel, rfl, by decide +kernel, by decide +kernel⟩
abbrev s_is_person : Stmt := top 10
abbrev N_is_person : List Str := ["value"]
abbrev P_is_person : List Str := ["value"]
theorem sc_is_person : FnScope N_is_person P_is_person (defScope s_is_person) := ⟨rfl, rfl, rfl, by decide +kernel, rfl, by decide +kernel, by decide +kernel⟩
abbrev s_after_departures : Stmt := top 19
abbrev N_after_departures : List Str := ["chart", "arrangement", "leavers", "under", "holders", "leaver"]
abbrev P_after_departures : List Str := ["chart", "arrangement", "leavers"]
theorem sc_after_departures : FnScope N_after_departures P_after_departures (defScope s_after_departures) := ⟨rfl, rfl, rfl, by decide +kernel, rfl, by decide +kernel, by decide +kernel⟩
abbrev s_require_post : Stmt := top 23
abbrev N_require_post : List Str := ["chart", "post"]
abbrev P_require_post : List Str := ["chart", "post"]
theorem sc_require_post : FnScope N_require_post P_require_post (defScope s_require_post) := ⟨rfl, rfl, rfl, by decide +kernel, rfl, by decide +kernel, by decide +kernel⟩
abbrev s_l_random_rows : Stmt := top 50
abbrev N_l_random_rows : List Str := ["_law_generator_here", "_law_tree", "_law_size", "_law_count"]
abbrev P_l_random_rows : List Str := ["_law_generator_here", "_law_tree"]
theorem sc_l_random_rows : FnScope N_l_random_rows P_l_random_rows (defScope s_l_random_rows) := ⟨rfl, rfl, rfl, by decide +kernel, rfl, by decide +kernel, by decide +kernel⟩
abbrev s_l_some : Stmt := top 52
abbrev N_l_some : List Str := ["_law_generator_here", "_law_names_here", "_law_name"]
abbrev P_l_some : List Str := ["_law_generator_here", "_law_names_here"]
theorem sc_l_some : FnScope N_l_some P_l_some (defScope s_l_some) := ⟨rfl, rfl, rfl, by decide +kernel, rfl, by decide +kernel, by decide +kernel⟩
abbrev s_require_chart : Stmt := top 22
abbrev N_require_chart : List Str := ["chart", "reason"]
abbrev P_require_chart : List Str := ["chart"]
theorem sc_require_chart : FnScope N_require_chart P_require_chart (defScope s_require_chart) := ⟨rfl, rfl, rfl, by decide +kernel, rfl, by decide +kernel, by decide +kernel⟩
abbrev s_is_holder : Stmt := top 30
abbrev N_is_holder : List Str := ["arrangement", "person"]
abbrev P_is_holder : List Str := ["arrangement", "person"]
theorem sc_is_holder : FnScope N_is_holder P_is_holder (defScope s_is_holder) := ⟨rfl, rfl, rfl, by decide +kernel, rfl, by decide +kernel, by decide +kernel⟩
abbrev s_check_arrangement : Stmt := top 27
abbrev N_check_arrangement : List Str := ["chart", "value", "k", "person", "seen"]
abbrev P_check_arrangement : List Str := ["chart", "value"]
theorem sc_check_arrangement : FnScope N_check_arrangement P_check_arrangement (defScope s_check_arrangement) := ⟨rfl, rfl, rfl, by decide +kernel, rfl, by decide +kernel, by decide +kernel⟩
abbrev s_first_misfit : Stmt := top 31
abbrev N_first_misfit : List Str := ["arrangement", "people", "seen", "k", "person"]
abbrev P_first_misfit : List Str := ["arrangement", "people"]
theorem sc_first_misfit : FnScope N_first_misfit P_first_misfit (defScope s_first_misfit) := ⟨rfl, rfl, rfl, by decide +kernel, rfl, by decide +kernel, by decide +kernel⟩
abbrev s_posts_below : Stmt := top 25
abbrev N_posts_below : List Str := ["chart", "post", "found", "k"]
abbrev P_posts_below : List Str := ["chart", "post"]
theorem sc_posts_below : FnScope N_posts_below P_posts_below (defScope s_posts_below) := ⟨rfl, rfl, rfl, by decide +kernel, rfl, by decide +kernel, by decide +kernel⟩
abbrev s_path_to : Stmt := top 24
abbrev N_path_to : List Str := ["chart", "post"]
abbrev P_path_to : List Str := ["chart", "post"]
theorem sc_path_to : FnScope N_path_to P_path_to (defScope s_path_to) := ⟨rfl, rfl, rfl, by decide +kernel, rfl, by decide +kernel, by decide +kernel⟩
abbrev s_require_arrangement : Stmt := top 29
abbrev N_require_arrangement : List Str := ["chart", "arrangement", "reason"]
abbrev P_require_arrangement : List Str := ["chart", "arrangement"]
theorem sc_require_arrangement : FnScope N_require_arrangement P_require_arrangement (defScope s_require_arrangement) := ⟨rfl, rfl, rfl, by decide +kernel, rfl, by decide +kernel, by decide +kernel⟩
abbrev s_require_leavers : Stmt := top 32
abbrev N_require_leavers : List Str := ["arrangement", "people", "misfit"]
abbrev P_require_leavers : List Str := ["arrangement", "people"]
theorem sc_require_leavers : FnScope N_require_leavers P_require_leavers (defScope s_require_leavers) := ⟨rfl, rfl, rfl, by decide +kernel, rfl, by decide +kernel, by decide +kernel⟩
abbrev s_require_people : Stmt := top 33
abbrev N_require_people : List Str := ["arrangement", "people", "misfit"]
abbrev P_require_people : List Str := ["arrangement", "people"]
theorem sc_require_people : FnScope N_require_people P_require_people (defScope s_require_people) := ⟨rfl, rfl, rfl, by decide +kernel, rfl, by decide +kernel, by decide +kernel⟩
abbrev s_leave : Stmt := top 35
abbrev N_leave : List Str := ["chart", "arrangement", "people"]
abbrev P_leave : List Str := ["chart", "arrangement", "people"]
theorem sc_leave : FnScope N_leave P_leave (defScope s_leave) := ⟨rfl, rfl, rfl, by decide +kernel, rfl, by decide +kernel, by decide +kernel⟩
abbrev s_reduced : Stmt := top 36
abbrev N_reduced : List Str := ["chart", "arrangement", "people", "leavers", "person"]
abbrev P_reduced : List Str := ["chart", "arrangement", "people"]
theorem sc_reduced : FnScope N_reduced P_reduced (defScope s_reduced) := ⟨rfl, rfl, rfl, by decide +kernel, rfl, by decide +kernel, by decide +kernel⟩
abbrev s_post_of : Stmt := top 34
abbrev N_post_of : List Str := ["chart", "arrangement", "person"]
abbrev P_post_of : List Str := ["chart", "arrangement", "person"]
theorem sc_post_of : FnScope N_post_of P_post_of (defScope s_post_of) := ⟨rfl, rfl, rfl, by decide +kernel, rfl, by decide +kernel, by decide +kernel⟩
abbrev s_require_remaining : Stmt := top 38
abbrev N_require_remaining : List Str := ["chart", "arrangement", "leavers", "person"]
abbrev P_require_remaining : List Str := ["chart", "arrangement", "leavers", "person"]
theorem sc_require_remaining : FnScope N_require_remaining P_require_remaining (defScope s_require_remaining) := ⟨rfl, rfl, rfl, by decide +kernel, rfl, by decide +kernel, by decide +kernel⟩
abbrev s_l_one_by_one : Stmt := top 53
abbrev N_l_one_by_one : List Str := ["_law_tree", "_law_rows", "_law_names_here", "_law_name"]
abbrev P_l_one_by_one : List Str := ["_law_tree", "_law_rows", "_law_names_here"]
theorem sc_l_one_by_one : FnScope N_l_one_by_one P_l_one_by_one (defScope s_l_one_by_one) := ⟨rfl, rfl, rfl, by decide +kernel, rfl, by decide +kernel, by decide +kernel⟩
abbrev s_post_after : Stmt := top 39
abbrev N_post_after : List Str := ["chart", "arrangement", "leavers", "person"]
abbrev P_post_after : List Str := ["chart", "arrangement", "leavers", "person"]
theorem sc_post_after : FnScope N_post_after P_post_after (defScope s_post_after) := ⟨rfl, rfl, rfl, by decide +kernel, rfl, by decide +kernel, by decide +kernel⟩
abbrev s_l_orders_right : Stmt := top 54
abbrev N_l_orders_right : List Str := ["_law_generator_here", "_law_tree", "_law_rows", "_law_first", "_law_second", "_law_final", "_law_staying", "_law_middle", "_law_name"]
abbrev P_l_orders_right : List Str := ["_law_generator_here", "_law_tree", "_law_rows", "_law_first", "_law_second"]
theorem sc_l_orders_right : FnScope N_l_orders_right P_l_orders_right (defScope s_l_orders_right) := ⟨rfl, rfl, rfl, by decide +kernel, rfl, by decide +kernel, by decide +kernel⟩
abbrev s_l_positions_right : Stmt := top 55
abbrev N_l_positions_right : List Str := ["_law_tree", "_law_rows", "_law_leaving", "_law_final", "_law_name", "_law_start", "_law_end", "_law_place", "_law_lower", "_law_before", "_law_after", "_law_passed", "_law_other"]
abbrev P_l_positions_right : List Str := ["_law_tree", "_law_rows", "_law_leaving"]
theorem sc_l_positions_right : FnScope N_l_positions_right P_l_positions_right (defScope s_l_positions_right) := ⟨rfl, rfl, rfl, by decide +kernel, rfl, by decide +kernel, by decide +kernel⟩
abbrev s_law : Stmt := top 56
abbrev N_law : List Str := ["_law_script", "_law_index", "_law_generator_here", "_law_tree", "_law_attempt", "_law_rows", "_law_names_here", "_law_cut"]
abbrev P_law : List Str := ["_law_script"]
theorem sc_law : FnScope N_law P_law (defScope s_law) := ⟨rfl, rfl, rfl, by decide +kernel, rfl, by decide +kernel, by decide +kernel⟩
/-- what the top has written -/
structure Tx (K : PySem.W.Frag) (mg : Str → Option Value) where
  a_l_cell : Addr
  d_l_cell : FuncData
  f_l_cell : Fun K "_law_cell" "_law_cell" s_l_cell a_l_cell d_l_cell
  b_l_cell : Binds K d_l_cell P_l_cell []
  m_l_cell : mg "_law_cell" = some (.ref a_l_cell)
  a_l_hash : Addr
  d_l_hash : FuncData
  f_l_hash : Fun K "_law_hash" "_law_hash" s_l_hash a_l_hash d_l_hash
  b_l_hash : Binds K d_l_hash P_l_hash []
  m_l_hash : mg "_law_hash" = some (.ref a_l_hash)
  a_l_open : Addr
  d_l_open : FuncData
  f_l_open : Fun K "_law_open" "_law_open" s_l_open a_l_open d_l_open
  b_l_open : Binds K d_l_open P_l_open []
  m_l_open : mg "_law_open" = some (.ref a_l_open)
  a_l_held : Addr
  d_l_held : FuncData
  f_l_held : Fun K "_law_held" "_law_held" s_l_held a_l_held d_l_held
  b_l_held : Binds K d_l_held P_l_held []
  m_l_held : mg "_law_held" = some (.ref a_l_held)
  a_is_whole : Addr
  d_is_whole : FuncData
  f_is_whole : Fun K "is_whole" "is_whole" s_is_whole a_is_whole d_is_whole
  b_is_whole : Binds K d_is_whole P_is_whole []
  m_is_whole : mg "is_whole" = some (.ref a_is_whole)
  a_may_stand_below : Addr
  d_may_stand_below : FuncData
  f_may_stand_below : Fun K "may_stand_below" "may_stand_below" s_may_stand_below a_may_stand_below d_may_stand_below
  b_may_stand_below : Binds K d_may_stand_below P_may_stand_below []
  m_may_stand_below : mg "may_stand_below" = some (.ref a_may_stand_below)
  a_posts_under : Addr
  d_posts_under : FuncData
  f_posts_under : Fun K "posts_under" "posts_under" s_posts_under a_posts_under d_posts_under
  b_posts_under : Binds K d_posts_under P_posts_under []
  m_posts_under : mg "posts_under" = some (.ref a_posts_under)
  a_next_in_line : Addr
  d_next_in_line : FuncData
  f_next_in_line : Fun K "next_in_line" "next_in_line" s_next_in_line a_next_in_line d_next_in_line
  b_next_in_line : Binds K d_next_in_line P_next_in_line []
  m_next_in_line : mg "next_in_line" = some (.ref a_next_in_line)
  a_people_of : Addr
  d_people_of : FuncData
  f_people_of : Fun K "people_of" "people_of" s_people_of a_people_of d_people_of
  b_people_of : Binds K d_people_of P_people_of []
  m_people_of : mg "people_of" = some (.ref a_people_of)
  a_place_of : Addr
  d_place_of : FuncData
  f_place_of : Fun K "place_of" "place_of" s_place_of a_place_of d_place_of
  b_place_of : Binds K d_place_of P_place_of []
  m_place_of : mg "place_of" = some (.ref a_place_of)
  a_way_down : Addr
  d_way_down : FuncData
  f_way_down : Fun K "way_down" "way_down" s_way_down a_way_down d_way_down
  b_way_down : Binds K d_way_down P_way_down []
  m_way_down : mg "way_down" = some (.ref a_way_down)
  a_l_generator : Addr
  d_l_generator : FuncData
  f_l_generator : Fun K "_law_generator" "_law_generator" s_l_generator a_l_generator d_l_generator
  b_l_generator : Binds K d_l_generator P_l_generator []
  m_l_generator : mg "_law_generator" = some (.ref a_l_generator)
  a_l_random : Addr
  d_l_random : FuncData
  f_l_random : Fun K "_law_random" "_law_random" s_l_random a_l_random d_l_random
  b_l_random : Binds K d_l_random P_l_random []
  m_l_random : mg "_law_random" = some (.ref a_l_random)
  a_is_post : Addr
  d_is_post : FuncData
  f_is_post : Fun K "is_post" "is_post" s_is_post a_is_post d_is_post
  b_is_post : Binds K d_is_post P_is_post []
  m_is_post : mg "is_post" = some (.ref a_is_post)
  a_is_amount : Addr
  d_is_amount : FuncData
  f_is_amount : Fun K "is_amount" "is_amount" s_is_amount a_is_amount d_is_amount
  b_is_amount : Binds K d_is_amount P_is_amount []
  m_is_amount : mg "is_amount" = some (.ref a_is_amount)
  a_depart : Addr
  d_depart : FuncData
  f_depart : Fun K "depart" "depart" s_depart a_depart d_depart
  b_depart : Binds K d_depart P_depart []
  m_depart : mg "depart" = some (.ref a_depart)
  a_l_random_chart : Addr
  d_l_random_chart : FuncData
  f_l_random_chart : Fun K "_law_random_chart" "_law_random_chart" s_l_random_chart a_l_random_chart d_l_random_chart
  b_l_random_chart : Binds K d_l_random_chart P_l_random_chart []
  m_l_random_chart : mg "_law_random_chart" = some (.ref a_l_random_chart)
  a_l_filled : Addr
  d_l_filled : FuncData
  f_l_filled : Fun K "_law_filled" "_law_filled" s_l_filled a_l_filled d_l_filled
  b_l_filled : Binds K d_l_filled P_l_filled []
  m_l_filled : mg "_law_filled" = some (.ref a_l_filled)
  a_l_names : Addr
  d_l_names : FuncData
  f_l_names : Fun K "_law_names" "_law_names" s_l_names a_l_names d_l_names
  b_l_names : Binds K d_l_names P_l_names []
  m_l_names : mg "_law_names" = some (.ref a_l_names)
  a_l_shuffled : Addr
  d_l_shuffled : FuncData
  f_l_shuffled : Fun K "_law_shuffled" "_law_shuffled" s_l_shuffled a_l_shuffled d_l_shuffled
  b_l_shuffled : Binds K d_l_shuffled P_l_shuffled []
  m_l_shuffled : mg "_law_shuffled" = some (.ref a_l_shuffled)
  a_check_chart : Addr
  d_check_chart : FuncData
  f_check_chart : Fun K "check_chart" "check_chart" s_check_chart a_check_chart d_check_chart
  b_check_chart : Binds K d_check_chart P_check_chart []
  m_check_chart : mg "check_chart" = some (.ref a_check_chart)
  a_is_person : Addr
  d_is_person : FuncData
  f_is_person : Fun K "is_person" "is_person" s_is_person a_is_person d_is_person
  b_is_person : Binds K d_is_person P_is_person []
  m_is_person : mg "is_person" = some (.ref a_is_person)
  a_after_departures : Addr
  d_after_departures : FuncData
  f_after_departures : Fun K "after_departures" "after_departures" s_after_departures a_after_departures d_after_departures
  b_after_departures : Binds K d_after_departures P_after_departures []
  m_after_departures : mg "after_departures" = some (.ref a_after_departures)
  a_require_post : Addr
  d_require_post : FuncData
  f_require_post : Fun K "require_post" "require_post" s_require_post a_require_post d_require_post
  b_require_post : Binds K d_require_post P_require_post []
  m_require_post : mg "require_post" = some (.ref a_require_post)
  a_l_random_rows : Addr
  d_l_random_rows : FuncData
  f_l_random_rows : Fun K "_law_random_rows" "_law_random_rows" s_l_random_rows a_l_random_rows d_l_random_rows
  b_l_random_rows : Binds K d_l_random_rows P_l_random_rows []
  m_l_random_rows : mg "_law_random_rows" = some (.ref a_l_random_rows)
  a_l_some : Addr
  d_l_some : FuncData
  f_l_some : Fun K "_law_some" "_law_some" s_l_some a_l_some d_l_some
  b_l_some : Binds K d_l_some P_l_some []
  m_l_some : mg "_law_some" = some (.ref a_l_some)
  a_require_chart : Addr
  d_require_chart : FuncData
  f_require_chart : Fun K "require_chart" "require_chart" s_require_chart a_require_chart d_require_chart
  b_require_chart : Binds K d_require_chart P_require_chart []
  m_require_chart : mg "require_chart" = some (.ref a_require_chart)
  a_is_holder : Addr
  d_is_holder : FuncData
  f_is_holder : Fun K "is_holder" "is_holder" s_is_holder a_is_holder d_is_holder
  b_is_holder : Binds K d_is_holder P_is_holder []
  m_is_holder : mg "is_holder" = some (.ref a_is_holder)
  a_check_arrangement : Addr
  d_check_arrangement : FuncData
  f_check_arrangement : Fun K "check_arrangement" "check_arrangement" s_check_arrangement a_check_arrangement d_check_arrangement
  b_check_arrangement : Binds K d_check_arrangement P_check_arrangement []
  m_check_arrangement : mg "check_arrangement" = some (.ref a_check_arrangement)
  a_first_misfit : Addr
  d_first_misfit : FuncData
  f_first_misfit : Fun K "first_misfit" "first_misfit" s_first_misfit a_first_misfit d_first_misfit
  b_first_misfit : Binds K d_first_misfit P_first_misfit []
  m_first_misfit : mg "first_misfit" = some (.ref a_first_misfit)
  a_posts_below : Addr
  d_posts_below : FuncData
  f_posts_below : Fun K "posts_below" "posts_below" s_posts_below a_posts_below d_posts_below
  b_posts_below : Binds K d_posts_below P_posts_below []
  m_posts_below : mg "posts_below" = some (.ref a_posts_below)
  a_path_to : Addr
  d_path_to : FuncData
  f_path_to : Fun K "path_to" "path_to" s_path_to a_path_to d_path_to
  b_path_to : Binds K d_path_to P_path_to []
  m_path_to : mg "path_to" = some (.ref a_path_to)
  a_require_arrangement : Addr
  d_require_arrangement : FuncData
  f_require_arrangement : Fun K "require_arrangement" "require_arrangement" s_require_arrangement a_require_arrangement d_require_arrangement
  b_require_arrangement : Binds K d_require_arrangement P_require_arrangement []
  m_require_arrangement : mg "require_arrangement" = some (.ref a_require_arrangement)
  a_require_leavers : Addr
  d_require_leavers : FuncData
  f_require_leavers : Fun K "require_leavers" "require_leavers" s_require_leavers a_require_leavers d_require_leavers
  b_require_leavers : Binds K d_require_leavers P_require_leavers []
  m_require_leavers : mg "require_leavers" = some (.ref a_require_leavers)
  a_require_people : Addr
  d_require_people : FuncData
  f_require_people : Fun K "require_people" "require_people" s_require_people a_require_people d_require_people
  b_require_people : Binds K d_require_people P_require_people []
  m_require_people : mg "require_people" = some (.ref a_require_people)
  a_leave : Addr
  d_leave : FuncData
  f_leave : Fun K "leave" "leave" s_leave a_leave d_leave
  m_leave : mg "leave" = some (.ref a_leave)
  a_reduced : Addr
  d_reduced : FuncData
  f_reduced : Fun K "reduced" "reduced" s_reduced a_reduced d_reduced
  b_reduced : Binds K d_reduced P_reduced []
  m_reduced : mg "reduced" = some (.ref a_reduced)
  a_post_of : Addr
  d_post_of : FuncData
  f_post_of : Fun K "post_of" "post_of" s_post_of a_post_of d_post_of
  b_post_of : Binds K d_post_of P_post_of []
  m_post_of : mg "post_of" = some (.ref a_post_of)
  a_require_remaining : Addr
  d_require_remaining : FuncData
  f_require_remaining : Fun K "require_remaining" "require_remaining" s_require_remaining a_require_remaining d_require_remaining
  b_require_remaining : Binds K d_require_remaining P_require_remaining []
  m_require_remaining : mg "require_remaining" = some (.ref a_require_remaining)
  a_l_one_by_one : Addr
  d_l_one_by_one : FuncData
  f_l_one_by_one : Fun K "_law_one_by_one" "_law_one_by_one" s_l_one_by_one a_l_one_by_one d_l_one_by_one
  b_l_one_by_one : Binds K d_l_one_by_one P_l_one_by_one []
  m_l_one_by_one : mg "_law_one_by_one" = some (.ref a_l_one_by_one)
  a_post_after : Addr
  d_post_after : FuncData
  f_post_after : Fun K "post_after" "post_after" s_post_after a_post_after d_post_after
  b_post_after : Binds K d_post_after P_post_after []
  m_post_after : mg "post_after" = some (.ref a_post_after)
  a_l_orders_right : Addr
  d_l_orders_right : FuncData
  f_l_orders_right : Fun K "_law_orders_right" "_law_orders_right" s_l_orders_right a_l_orders_right d_l_orders_right
  b_l_orders_right : Binds K d_l_orders_right P_l_orders_right []
  m_l_orders_right : mg "_law_orders_right" = some (.ref a_l_orders_right)
  a_l_positions_right : Addr
  d_l_positions_right : FuncData
  f_l_positions_right : Fun K "_law_positions_right" "_law_positions_right" s_l_positions_right a_l_positions_right d_l_positions_right
  b_l_positions_right : Binds K d_l_positions_right P_l_positions_right []
  m_l_positions_right : mg "_law_positions_right" = some (.ref a_l_positions_right)
  a_law : Addr
  d_law : FuncData
  f_law : Fun K "law" "law" s_law a_law d_law
  b_law : Binds K d_law P_law []
  m_law : mg "law" = some (.ref a_law)
  kt : KT K
  z_bool : mg "bool" = none
  z_enumerate : mg "enumerate" = none
  z_int : mg "int" = none
  z_isinstance : mg "isinstance" = none
  z_len : mg "len" = none
  z_list : mg "list" = none
  z_max : mg "max" = none
  z_min : mg "min" = none
  z_range : mg "range" = none
  z_set : mg "set" = none
  z_sorted : mg "sorted" = none
  z_tuple : mg "tuple" = none
section
variable {P : Program} {w : World} {K : PySem.W.Frag} {mg : Str → Option Value} {base : Heap}
theorem ok_l_cell (T : Tx K mg) : FnG P w K mg base 1 T.a_l_cell T.d_l_cell P_l_cell (spF K 2 f_l_cell) := by
  refine mk_def T.f_l_cell sc_l_cell rfl rfl (fun cdv hkd A outer s H E hgd hr => ?_)
  exact ⟨_, (pss_cons (ps_if (pt_cmpR op_lt (pv 1) (pe_callB (k_len (K := K)) (by rfl) T.z_len (by decide +kernel) (pa_cons (pv 0) pa_nil)) (nomark _)) (pss_one (ps_ret (pe_ix (ixr_seq (K := K) rfl) (pv 0) (pv 1) (fun _ _ => rfl)))) pss_nil)
      (pss_one (ps_ret pe_int))),
    (ss_seq (ss_if (st_cmp (se_op (ops_cmpI fun i j => decide (i < j)) se_var (se_cb cb_len (sa_cons (se_rd se_var) sa_nil)))) (ss_ret (se_op ops_ix se_var se_var)) ss_next)
      (ss_ret se_int))⟩
theorem ok_l_hash (T : Tx K mg) : FnG P w K mg base 1 T.a_l_hash T.d_l_hash P_l_hash (spF K 2 f_l_hash) := by
  refine mk_def T.f_l_hash sc_l_hash rfl rfl (fun cdv hkd A outer s H E hgd hr => ?_)
  exact ⟨_, (pss_cons (ps_set (i := 2) sc_l_hash.nd rfl (by first | exact Or.inl rfl | exact Or.inr rfl) (pe_op op_mod (pe_callTy call_int1 (by rfl) T.z_int (by decide +kernel) (pa_cons (pe_op (op_add' (K := K) rfl) (pe_op (op_add' (K := K) rfl) (pe_op (op_add' (K := K) rfl) (pe_op (op_mul' (K := K) rfl) (pv 0) pe_int) (pe_op (op_mul' (K := K) rfl) (pe_op (op_mul' (K := K) rfl) pe_int (pv 1)) (pv 1))) (pv 1)) pe_int) pa_nil)) pe_int))
      (pss_cons (ps_set (i := 2) sc_l_hash.nd rfl (by first | exact Or.inl rfl | exact Or.inr rfl) (pe_op op_mod (pe_callTy call_int1 (by rfl) T.z_int (by decide +kernel) (pa_cons (pe_op (op_add' (K := K) rfl) (pe_op (op_mul' (K := K) rfl) (pv 2) (pv 2)) pe_int) pa_nil)) pe_int))
      (pss_one (ps_ret (pe_op op_mod (pe_callTy call_int1 (by rfl) T.z_int (by decide +kernel) (pa_cons (pe_op (op_mul' (K := K) rfl) (pv 2) pe_int) pa_nil)) pe_int))))),
    (ss_seq (ss_set (se_op ops_mod (se_cb cb_int (sa_cons (se_rd (se_op ops_add (se_op ops_add (se_op ops_add (se_mul se_var se_int) (se_mul (se_mul se_int se_var) se_var)) se_var) se_int)) sa_nil)) se_int))
      (ss_seq (ss_set (se_op ops_mod (se_cb cb_int (sa_cons (se_rd (se_op ops_add (se_mul se_var se_var) se_int)) sa_nil)) se_int))
      (ss_ret (se_op ops_mod (se_cb cb_int (sa_cons (se_rd (se_mul se_var se_int)) sa_nil)) se_int))))⟩
theorem ok_l_open (T : Tx K mg) : FnG P w K mg base 1 T.a_l_open T.d_l_open P_l_open (spF K 2 f_l_open) := by
  refine mk_def T.f_l_open sc_l_open rfl rfl (fun cdv hkd A outer s H E hgd hr => ?_)
  exact ⟨_, (pss_cons (ps_set (i := 2) sc_l_open.nd rfl (by first | exact Or.inl rfl | exact Or.inr rfl) (pe_lst pa_nil))
      (pss_cons (ps_for PassesOwn.never rfl (pi_enum2 (K := K) (by rfl) T.z_enumerate (pa_cons (pv 0) pa_nil)) (pg_tup rfl (pgs_cons (pg_name (i := 3) sc_l_open.nd rfl (by first | exact Or.inl rfl | exact Or.inr rfl)) (pgs_cons (pg_name (i := 4) sc_l_open.nd rfl (by first | exact Or.inl rfl | exact Or.inr rfl)) pgs_nil)))
      (pss_one (ps_if (PW.pt (pw_and (pt_cmpR op_isN (pe_ix (ixr_seq (K := K) rfl) (pv 1) (pv 3) (fun _ _ => rfl)) pe_non (nomark _)) (pw_and1 (PW.pt (pw_or (pt_cmpR op_isN (pv 4) pe_non (nomark _)) (pw_or1 (pt_cmpR op_notN (pe_ix (ixr_seq (K := K) rfl) (pv 1) (pv 4) (fun _ _ => rfl)) pe_non (nomark _)))))))) (pss_one (ps_expr (pe_bm PySem.F.plainAttrs_list PySem.F.slot_list_append PySem.F.type_list_append mt_append (pv 2) (pa_cons (pv 3) pa_nil)))) pss_nil)))
      (pss_one (ps_ret (pv 2))))),
    (ss_seq (ss_set (se_lst sa_nil))
      (ss_seq (ss_for (si_enum se_var) (sg_tup (sgs_cons sg_name (sgs_cons sg_name sgs_nil))) (ss_if (st_and (st_cmp (se_op ops_isN (se_op ops_ix se_var se_var) se_non)) (st_or (st_cmp (se_op ops_isN se_var se_non)) (st_cmp (se_op ops_notN (se_op ops_ix se_var se_var) se_non)))) (ss_append se_var) ss_next))
      (ss_ret se_var)))⟩
theorem ok_l_held (T : Tx K mg) : FnG P w K mg base 1 T.a_l_held T.d_l_held P_l_held (spF K 1 f_l_held) := by
  refine mk_def T.f_l_held sc_l_held rfl rfl (fun cdv hkd A outer s H E hgd hr => ?_)
  exact ⟨_, (pss_one (ps_ret (pe_callB (k_sortedU (K := K) hr.units) (by rfl) T.z_sorted (by decide +kernel) (pa_cons (pe_lc (own := [("_law_name", 1)]) rfl sc_l_held.nd (k_pi2 (K := K) (pv 0)) (blkOk_by (N := N_l_held) (sc := defScope s_l_held) (by decide +kernel)) (fun _ _ _ _ _ => (pg_name (i := 1) sc_l_held.nd rfl (by first | exact Or.inl rfl | exact Or.inr rfl))) (fun _ _ _ _ _ => (pts_one (pt_cmpR op_notN (pv 1) pe_non (nomark _)))) (fun _ _ _ _ _ => (pv 1))) pa_nil)))),
    (ss_ret (se_cb cb_sortedU (sa_cons (se_rd (se_lc (si_seq se_var) sgc_name (by decide) (st_cmp (se_op ops_notN se_var se_non)) se_var)) sa_nil)))⟩
theorem ok_is_whole (T : Tx K mg) : FnG P w K mg base 1 T.a_is_whole T.d_is_whole P_is_whole (spF K 1 f_is_whole) := by
  refine mk_def T.f_is_whole sc_is_whole rfl rfl (fun cdv hkd A outer s H E hgd hr => ?_)
  exact ⟨_, (pss_one (ps_ret (pe_and (pe_callB (k_isi (K := K)) (by rfl) T.z_isinstance (by decide +kernel) (pa_cons (pv 0) (pa_cons (pe_bltn (v := .ty "int") (by rfl) T.z_int (by decide +kernel) rfl) pa_nil))) (pe_one (pe_not (pe_callB (k_isi (K := K)) (by rfl) T.z_isinstance (by decide +kernel) (pa_cons (pv 0) (pa_cons (pe_bltn (v := .ty "bool") (by rfl) T.z_bool (by decide +kernel) rfl) pa_nil)))))))),
    (ss_ret (se_and (se_isi se_var) (se_not (se_isi se_var))))⟩
theorem ok_may_stand_below (T : Tx K mg) : FnG P w K mg base 1 T.a_may_stand_below T.d_may_stand_below P_may_stand_below (spF K 2 f_may_stand_below) := by
  refine mk_def T.f_may_stand_below sc_may_stand_below rfl rfl (fun cdv hkd A outer s H E hgd hr => ?_)
  exact ⟨_, (pss_one (ps_ret (pe_and (pe_cmpR op_notN (pv 1) pe_non (nomark _)) (pe_one (pe_cmpR op_lt (pv 1) (pv 0) (nomark _)))))),
    (ss_ret (se_and (se_op ops_notN se_var se_non) (se_op (ops_cmpI fun i j => decide (i < j)) se_var se_var)))⟩
theorem ok_posts_under (T : Tx K mg) : FnG P w K mg base 1 T.a_posts_under T.d_posts_under P_posts_under (spF K 1 f_posts_under) := by
  refine mk_under T.f_posts_under sc_posts_under rfl rfl (fun cdv hkd A outer s H E hgd hr => ?_)
  exact ⟨_, (pss_cons (ps_setLc (i := 1) (own := [("k", 2)]) rfl sc_posts_under.nd rfl rfl (sw_true rfl rfl rfl (by decide +kernel)) (k_pit (K := K) (pv 0)) (blkOk_by (N := N_posts_under) (sc := defScope s_posts_under) (by decide +kernel)) (fun _ _ _ _ _ => (pg_name (i := 2) sc_posts_under.nd rfl (by first | exact Or.inl rfl | exact Or.inr rfl))) (fun _ _ _ _ _ => pts_nil) (fun _ _ _ _ _ => (pe_lst pa_nil)))
      (pss_cons (ps_for PassesOwn.never rfl (pi_range2 (by rfl) T.z_range (pa_cons pe_int (pa_cons (pe_callB (k_len (K := K)) (by rfl) T.z_len (by decide +kernel) (pa_cons (pv 0) pa_nil)) pa_nil))) (pg_name (i := 2) sc_posts_under.nd rfl (by first | exact Or.inl rfl | exact Or.inr rfl))
      (pss_one (ps_expr (pe_bm PySem.F.plainAttrs_list PySem.F.slot_list_append PySem.F.type_list_append mt_append (pe_ix (k_ixL (K := K)) (pv 1) (pe_ix (k_ixT (K := K)) (pv 0) (pv 2) (fun _ _ => rfl)) (fun _ _ => rfl)) (pa_cons (pv 2) pa_nil)))))
      (pss_one (ps_ret (pv 1))))), rfl⟩
theorem ok_next_in_line (T : Tx K mg) : FnG P w K mg base 1 T.a_next_in_line T.d_next_in_line P_next_in_line (spF K 3 f_next_in_line) := by
  refine mk_def T.f_next_in_line sc_next_in_line rfl rfl (fun cdv hkd A outer s H E hgd hr => ?_)
  exact ⟨_, (pss_cons (ps_setLc (i := 3) (own := [("k", 4)]) rfl sc_next_in_line.nd rfl rfl (sw_true rfl rfl rfl (by decide +kernel)) (k_pi2 (K := K) (pe_ix (ixr_seq (K := K) rfl) (pv 0) (pv 2) (fun _ _ => rfl))) (blkOk_by (N := N_next_in_line) (sc := defScope s_next_in_line) (by decide +kernel)) (fun _ _ _ _ _ => (pg_name (i := 4) sc_next_in_line.nd rfl (by first | exact Or.inl rfl | exact Or.inr rfl))) (fun _ _ _ _ _ => (pts_one (pt_cmpR op_notN (pe_ix (ixr_seq (K := K) rfl) (pv 1) (pv 4) (fun _ _ => rfl)) pe_non (nomark _)))) (fun _ _ _ _ _ => (pe_tupN (pa_cons (pe_ix (ixr_seq (K := K) rfl) (pv 1) (pv 4) (fun _ _ => rfl)) (pa_cons (pv 4) pa_nil)))))
      (pss_cons (ps_if (pt_cmpR (k_eq (K := K) hr.units) (pe_callB (k_len (K := K)) (by rfl) T.z_len (by decide +kernel) (pa_cons (pv 3) pa_nil)) pe_int (nomark _)) (pss_one (ps_ret pe_non)) pss_nil)
      (pss_one (ps_ret (pe_ix (ixr_seq (K := K) rfl) (pe_callB (k_minU (K := K) rfl hr.units) (by rfl) T.z_min (by decide +kernel) (pa_cons (pv 3) pa_nil)) pe_int (fun _ _ => rfl)))))),
    (ss_seq (ss_set (se_lc (si_seq (se_op ops_ix se_var se_var)) sgc_name (by decide) (st_cmp (se_op ops_notN (se_op ops_ix se_var se_var) se_non)) (se_tup (sa_cons (se_dat (se_op ops_ix se_var se_var)) (sa_cons (se_dat se_var) sa_nil)))))
      (ss_seq (ss_if (st_cmp (se_op ops_eq (se_cb cb_len (sa_cons (se_rd se_var) sa_nil)) se_int)) (ss_ret se_non) ss_next)
      (ss_ret (se_op ops_ix (se_cb cb_minU (sa_cons (se_rd se_var) sa_nil)) se_int))))⟩
theorem ok_people_of (T : Tx K mg) : FnG P w K mg base 1 T.a_people_of T.d_people_of P_people_of (spF K 1 f_people_of) := by
  refine mk_def T.f_people_of sc_people_of rfl rfl (fun cdv hkd A outer s H E hgd hr => ?_)
  exact ⟨_, (pss_one (ps_ret (pe_callB (k_sortedU (K := K) hr.units) (by rfl) T.z_sorted (by decide +kernel) (pa_cons (pe_lc (own := [("person", 1)]) rfl sc_people_of.nd (k_pi2 (K := K) (pv 0)) (blkOk_by (N := N_people_of) (sc := defScope s_people_of) (by decide +kernel)) (fun _ _ _ _ _ => (pg_name (i := 1) sc_people_of.nd rfl (by first | exact Or.inl rfl | exact Or.inr rfl))) (fun _ _ _ _ _ => (pts_one (pt_cmpR op_notN (pv 1) pe_non (nomark _)))) (fun _ _ _ _ _ => (pv 1))) pa_nil)))),
    (ss_ret (se_cb cb_sortedU (sa_cons (se_rd (se_lc (si_seq se_var) sgc_name (by decide) (st_cmp (se_op ops_notN se_var se_non)) se_var)) sa_nil)))⟩
theorem ok_place_of (T : Tx K mg) : FnG P w K mg base 1 T.a_place_of T.d_place_of P_place_of (spF K 2 f_place_of) := by
  refine mk_def T.f_place_of sc_place_of rfl rfl (fun cdv hkd A outer s H E hgd hr => ?_)
  exact ⟨_, (pss_one (ps_ret (pe_ifExp (pt_cmpR (k_in (K := K)) (pv 1) (pv 0) (by rfl)) (pe_eor (k_bm (K := K) (pe_bm PySem.F.plainAttrs_list PySem.F.slot_list_index PySem.F.type_list_index (k_mtindex (K := K)) (pv 0) (pa_cons (pv 1) pa_nil))) (pe_tindex (pv 0) (pa_cons (pv 1) pa_nil))) pe_non))),
    (ss_ret (se_if (st_cmp (se_op (ops_in (neg := false)) se_var se_var)) (se_index T.kt se_var se_var) se_non))⟩
theorem ok_way_down (T : Tx K mg) : FnG P w K mg base 1 T.a_way_down T.d_way_down P_way_down (spF K 2 f_way_down) := by
  refine mk_def T.f_way_down sc_way_down rfl rfl (fun cdv hkd A outer s H E hgd hr => ?_)
  exact ⟨_, (pss_cons (ps_set (i := 2) sc_way_down.nd rfl (by first | exact Or.inl rfl | exact Or.inr rfl) (pe_lst (pa_cons (pv 1) pa_nil)))
      (pss_cons (ps_while PassesOwn.never (pt_cmpR op_notN (pe_ix (ixr_seq (K := K) rfl) (pv 0) (pe_ix (ixr_seq (K := K) rfl) (pv 2) (pe_un un_neg pe_int) (fun _ _ => rfl)) (fun _ _ => rfl)) pe_non (nomark _)) (pss_one (ps_expr (pe_bm PySem.F.plainAttrs_list PySem.F.slot_list_append PySem.F.type_list_append mt_append (pv 2) (pa_cons (pe_ix (ixr_seq (K := K) rfl) (pv 0) (pe_ix (ixr_seq (K := K) rfl) (pv 2) (pe_un un_neg pe_int) (fun _ _ => rfl)) (fun _ _ => rfl)) pa_nil)))))
      (pss_cons (ps_expr (pe_bm0 PySem.F.plainAttrs_list PySem.F.slot_list_reverse PySem.F.type_list_reverse mt_reverse (pv 2)))
      (pss_one (ps_ret (pv 2)))))),
    (ss_seq (ss_set (se_lst (sa_cons (se_dat se_var) sa_nil)))
      (ss_seq (ss_while (n := 100000) (st_cmp (se_op ops_notN (se_op ops_ix se_var (se_op ops_ix se_var (se_un opu_neg se_int))) se_non)) (ss_append (se_op ops_ix se_var (se_op ops_ix se_var (se_un opu_neg se_int)))))
      (ss_seq ss_reverse
      (ss_ret se_var))))⟩
theorem ok_l_generator (T : Tx K mg) : FnG P w K mg base 2 T.a_l_generator T.d_l_generator P_l_generator (spF K 2 f_l_generator) := by
  refine mk_def T.f_l_generator sc_l_generator rfl rfl (fun cdv hkd A outer s H E hgd hr => ?_)
  exact ⟨_, (pss_cons (ps_set (i := 2) sc_l_generator.nd rfl (by first | exact Or.inl rfl | exact Or.inr rfl) (pe_callG (ok_l_cell T) hgd (hr.mono (by decide)) (by rfl) T.m_l_cell T.f_l_cell.kp T.b_l_cell (pa_cons (pv 0) (pa_cons (pv 1) pa_nil))))
      (pss_one (ps_ret (pe_lst (pa_cons (pe_op op_mod (pe_callTy call_int1 (by rfl) T.z_int (by decide +kernel) (pa_cons (pe_callB (call_max2 rfl) (by rfl) T.z_max (by decide +kernel) (pa_cons (pe_op op_sub (pv 2) (pe_op op_powW pe_int pe_int)) (pa_cons pe_int pa_nil))) pa_nil)) (pe_op op_powW (pe_op op_powW pe_int pe_int) pe_int)) (pa_cons (pe_op op_mod (pe_callTy call_int1 (by rfl) T.z_int (by decide +kernel) (pa_cons (pv 2) pa_nil)) pe_int) (pa_cons (pe_op (op_mul' (K := K) rfl) pe_int (pv 1)) pa_nil))))))),
    (ss_seq (ss_set (se_call fnOf_len (sx_r se_var (sx_r se_var sx_nil))))
      (ss_ret (se_lst (sa_cons (se_dat (se_op ops_mod (se_cb cb_int (sa_cons (se_rd (se_cb cb_max2 (sa_cons (se_rd (se_op ops_sub se_var (se_op ops_pow se_int se_int))) (sa_cons (se_rd se_int) sa_nil)))) sa_nil)) (se_op ops_pow (se_op ops_pow se_int se_int) se_int))) (sa_cons (se_dat (se_op ops_mod (se_cb cb_int (sa_cons (se_rd se_var) sa_nil)) se_int)) (sa_cons (se_dat (se_mul se_int se_var)) sa_nil))))))⟩
theorem ok_l_random (T : Tx K mg) : FnG P w K mg base 2 T.a_l_random T.d_l_random P_l_random (spF K 2 f_l_random) := by
  refine mk_def T.f_l_random sc_l_random rfl rfl (fun cdv hkd A outer s H E hgd hr => ?_)
  exact ⟨_, (pss_cons (ps_if (pt_cmpR op_gt (pe_ix (ixr_seq (K := K) rfl) (pv 0) pe_int (fun _ _ => rfl)) pe_int (nomark _)) (pss_cons (ps_set (i := 2) sc_l_random.nd rfl (by first | exact Or.inl rfl | exact Or.inr rfl) (pe_op op_mod (pe_callTy call_int1 (by rfl) T.z_int (by decide +kernel) (pa_cons (pe_ix (ixr_seq (K := K) rfl) (pv 0) pe_int (fun _ _ => rfl)) pa_nil)) (pv 1)))
      (pss_cons (ps_asg (pe_op op_fdivW (pe_ix (ixr_seq (K := K) rfl) (pv 0) pe_int (fun _ _ => rfl)) (pv 1)) (pg_sub (pv 0) pe_int set_list))
      (pss_one (ps_ret (pv 2))))) pss_nil)
      (pss_cons (ps_set (i := 2) sc_l_random.nd rfl (by first | exact Or.inl rfl | exact Or.inr rfl) pe_int)
      (pss_cons (ps_for PassesOwn.never rfl (pi_range1 (by rfl) T.z_range (pa_cons (pe_op (op_add' (K := K) rfl) pe_int (pe_op op_fdivW (pe_bits (pv 1)) pe_int)) pa_nil)) (pg_name (i := 3) sc_l_random.nd rfl (by first | exact Or.inl rfl | exact Or.inr rfl))
      (pss_cons (ps_asg (pe_op (op_add' (K := K) rfl) (pe_ix (ixr_seq (K := K) rfl) (pv 0) pe_int (fun _ _ => rfl)) pe_int) (pg_sub (pv 0) pe_int set_list))
      (pss_one (ps_set (i := 2) sc_l_random.nd rfl (by first | exact Or.inl rfl | exact Or.inr rfl) (pe_op (op_add' (K := K) rfl) (pe_op (op_mul' (K := K) rfl) (pv 2) pe_int) (pe_callG (ok_l_hash T) hgd (hr.mono (by decide)) (by rfl) T.m_l_hash T.f_l_hash.kp T.b_l_hash (pa_cons (pe_ix (ixr_seq (K := K) rfl) (pv 0) pe_int (fun _ _ => rfl)) (pa_cons (pe_ix (ixr_seq (K := K) rfl) (pv 0) pe_int (fun _ _ => rfl)) pa_nil))))))))
      (pss_one (ps_ret (pe_op op_mod (pe_callTy call_int1 (by rfl) T.z_int (by decide +kernel) (pa_cons (pv 2) pa_nil)) (pv 1))))))),
    (ss_seq (ss_if (st_cmp (se_op (ops_cmpI fun i j => decide (j < i)) (se_op ops_ix se_var se_int) se_int)) (ss_seq (ss_set (se_op ops_mod (se_cb cb_int (sa_cons (se_rd (se_op ops_ix se_var se_int)) sa_nil)) se_var))
      (ss_seq (ss_asg (se_op ops_div (se_op ops_ix se_var se_int) se_var) (sg_sub se_int))
      (ss_ret se_var))) ss_next)
      (ss_seq (ss_set se_int)
      (ss_seq (ss_for (si_rng1 (se_op ops_add se_int (se_op ops_div (se_bits se_var) se_int))) sg_name (ss_seq (ss_asg (se_op ops_add (se_op ops_ix se_var se_int) se_int) (sg_sub se_int))
      (ss_set (se_op ops_add (se_mul se_var se_int) (se_call fnOf_len (sx_r (se_op ops_ix se_var se_int) (sx_r (se_op ops_ix se_var se_int) sx_nil)))))))
      (ss_ret (se_op ops_mod (se_cb cb_int (sa_cons (se_rd se_var) sa_nil)) se_var)))))⟩
theorem ok_is_post (T : Tx K mg) : FnG P w K mg base 2 T.a_is_post T.d_is_post P_is_post (spF K 2 f_is_post) := by
  refine mk_def T.f_is_post sc_is_post rfl rfl (fun cdv hkd A outer s H E hgd hr => ?_)
  exact ⟨_, (pss_one (ps_ret (pe_and (pe_callG (ok_is_whole T) hgd (hr.mono (by decide)) (by rfl) T.m_is_whole T.f_is_whole.kp T.b_is_whole (pa_cons (pv 0) pa_nil)) (pe_one (pe_chain op_le op_lt pe_int (pv 0) (pv 1)))))),
    (ss_ret (se_and (se_call fnOf_len (sx_r se_var sx_nil)) (se_chain (g := fun i j => decide (i ≤ j)) (g' := fun i j => decide (i < j)) se_int se_var se_var)))⟩
theorem ok_is_amount (T : Tx K mg) : FnG P w K mg base 2 T.a_is_amount T.d_is_amount P_is_amount (spF K 1 f_is_amount) := by
  refine mk_def T.f_is_amount sc_is_amount rfl rfl (fun cdv hkd A outer s H E hgd hr => ?_)
  exact ⟨_, (pss_one (ps_ret (pe_and (pe_callG (ok_is_whole T) hgd (hr.mono (by decide)) (by rfl) T.m_is_whole T.f_is_whole.kp T.b_is_whole (pa_cons (pv 0) pa_nil)) (pe_one (pe_cmpR op_ge (pv 0) pe_int (nomark _)))))),
    (ss_ret (se_and (se_call fnOf_len (sx_r se_var sx_nil)) (se_op (ops_cmpI fun i j => decide (j ≤ i)) se_var se_int)))⟩
theorem ok_depart (T : Tx K mg) : FnG P w K mg base 2 T.a_depart T.d_depart P_depart (spF K 3 f_depart) := by
  refine mk_def T.f_depart sc_depart rfl rfl (fun cdv hkd A outer s H E hgd hr => ?_)
  exact ⟨_, (pss_cons (ps_set (i := 3) sc_depart.nd rfl (by first | exact Or.inl rfl | exact Or.inr rfl) (pe_lst pa_nil))
      (pss_cons (ps_set (i := 4) sc_depart.nd rfl (by first | exact Or.inl rfl | exact Or.inr rfl) (pe_eor (k_bm (K := K) (pe_bm PySem.F.plainAttrs_list PySem.F.slot_list_index PySem.F.type_list_index (k_mtindex (K := K)) (pv 1) (pa_cons (pv 2) pa_nil))) (pe_tindex (pv 1) (pa_cons (pv 2) pa_nil))))
      (pss_cons (ps_set (i := 5) sc_depart.nd rfl (by first | exact Or.inl rfl | exact Or.inr rfl) (pe_callG (ok_next_in_line T) hgd (hr.mono (by decide)) (by rfl) T.m_next_in_line T.f_next_in_line.kp T.b_next_in_line (pa_cons (pv 0) (pa_cons (pv 1) (pa_cons (pv 4) pa_nil)))))
      (pss_cons (ps_while PassesOwn.never (pt_cmpR op_notN (pv 5) pe_non (nomark _)) (pss_cons (ps_asg (pe_ix (ixr_seq (K := K) rfl) (pv 1) (pv 5) (fun _ _ => rfl)) (pg_sub (pv 1) (pv 4) set_list))
      (pss_cons (ps_expr (pe_bm PySem.F.plainAttrs_list PySem.F.slot_list_append PySem.F.type_list_append mt_append (pv 3) (pa_cons (pe_tupN (pa_cons (pe_ix (ixr_seq (K := K) rfl) (pv 1) (pv 5) (fun _ _ => rfl)) (pa_cons (pv 5) (pa_cons (pv 4) pa_nil)))) pa_nil)))
      (pss_cons (ps_set (i := 4) sc_depart.nd rfl (by first | exact Or.inl rfl | exact Or.inr rfl) (pv 5))
      (pss_one (ps_set (i := 5) sc_depart.nd rfl (by first | exact Or.inl rfl | exact Or.inr rfl) (pe_callG (ok_next_in_line T) hgd (hr.mono (by decide)) (by rfl) T.m_next_in_line T.f_next_in_line.kp T.b_next_in_line (pa_cons (pv 0) (pa_cons (pv 1) (pa_cons (pv 4) pa_nil))))))))))
      (pss_cons (ps_asg pe_non (pg_sub (pv 1) (pv 4) set_list))
      (pss_one (ps_ret (pv 3)))))))),
    (ss_seq (ss_set (se_lst sa_nil))
      (ss_seq (ss_set (se_indexO se_var))
      (ss_seq (ss_set (se_call fnOf_len (sx_r se_var (sx_r se_var (sx_r se_var sx_nil)))))
      (ss_seq (ss_while (n := 100000) (st_cmp (se_op ops_notN se_var se_non)) (ss_seq (ss_asg (se_op ops_ix se_var se_var) (sg_sub se_var))
      (ss_seq (ss_append (se_tup (sa_cons (se_dat (se_op ops_ix se_var se_var)) (sa_cons (se_dat se_var) (sa_cons (se_dat se_var) sa_nil)))))
      (ss_seq (ss_set se_var)
      (ss_set (se_call fnOf_len (sx_r se_var (sx_r se_var (sx_r se_var sx_nil)))))))))
      (ss_seq (ss_asg se_non (sg_sub se_var))
      (ss_ret se_var))))))⟩
theorem ok_l_random_chart (T : Tx K mg) : FnG P w K mg base 3 T.a_l_random_chart T.d_l_random_chart P_l_random_chart (spF K 2 f_l_random_chart) := by
  refine mk_def T.f_l_random_chart sc_l_random_chart rfl rfl (fun cdv hkd A outer s H E hgd hr => ?_)
  exact ⟨_, (pss_cons (ps_set (i := 2) sc_l_random_chart.nd rfl (by first | exact Or.inl rfl | exact Or.inr rfl) (pe_op (op_add' (K := K) rfl) pe_int (pe_callG (ok_l_random T) hgd (hr.mono (by decide)) (by rfl) T.m_l_random T.f_l_random.kp T.b_l_random (pa_cons (pv 0) (pa_cons (pv 1) pa_nil)))))
      (pss_cons (ps_set (i := 3) sc_l_random_chart.nd rfl (by first | exact Or.inl rfl | exact Or.inr rfl) (pe_callG (ok_l_random T) hgd (hr.mono (by decide)) (by rfl) T.m_l_random T.f_l_random.kp T.b_l_random (pa_cons (pv 0) (pa_cons pe_int pa_nil))))
      (pss_cons (ps_set (i := 4) sc_l_random_chart.nd rfl (by first | exact Or.inl rfl | exact Or.inr rfl) (pe_lst (pa_cons pe_non pa_nil)))
      (pss_cons (ps_for PassesOwn.never rfl (pi_range2 (by rfl) T.z_range (pa_cons pe_int (pa_cons (pv 2) pa_nil))) (pg_name (i := 5) sc_l_random_chart.nd rfl (by first | exact Or.inl rfl | exact Or.inr rfl))
      (pss_cons (ps_set (i := 6) sc_l_random_chart.nd rfl (by first | exact Or.inl rfl | exact Or.inr rfl) (pe_lst (pa_cons (pe_op op_sub (pv 5) pe_int) (pa_cons pe_int (pa_cons (pe_callG (ok_l_random T) hgd (hr.mono (by decide)) (by rfl) T.m_l_random T.f_l_random.kp T.b_l_random (pa_cons (pv 0) (pa_cons (pv 5) pa_nil))) (pa_cons (pe_callB (call_max2 rfl) (by rfl) T.z_max (by decide +kernel) (pa_cons pe_int (pa_cons (pe_op op_sub (pe_op op_sub (pv 5) pe_int) (pe_callG (ok_l_random T) hgd (hr.mono (by decide)) (by rfl) T.m_l_random T.f_l_random.kp T.b_l_random (pa_cons (pv 0) (pa_cons pe_int pa_nil)))) pa_nil))) (pa_cons (pe_op op_fdivW (pv 5) pe_int) pa_nil)))))))
      (pss_one (ps_expr (pe_bm PySem.F.plainAttrs_list PySem.F.slot_list_append PySem.F.type_list_append mt_append (pv 4) (pa_cons (pe_callB (call_min2 rfl) (by rfl) T.z_min (by decide +kernel) (pa_cons (pe_op op_sub (pv 5) pe_int) (pa_cons (pe_ix (ixr_seq (K := K) rfl) (pv 6) (pv 3) (fun _ _ => rfl)) pa_nil))) pa_nil))))))
      (pss_one (ps_ret (pe_callTy (k_tuple (K := K)) (by rfl) T.z_tuple (by decide +kernel) (pa_cons (pv 4) pa_nil)))))))),
    (ss_seq (ss_set (se_op ops_add se_int (se_call fnOf_len (sx_m se_var (sx_r se_var sx_nil)))))
      (ss_seq (ss_set (se_call fnOf_len (sx_m se_var (sx_r se_int sx_nil))))
      (ss_seq (ss_set (se_lst (sa_cons (se_dat se_non) sa_nil)))
      (ss_seq (ss_for (si_rng2 se_int se_var) sg_name (ss_seq (ss_set (se_lst (sa_cons (se_dat (se_op ops_sub se_var se_int)) (sa_cons (se_dat se_int) (sa_cons (se_dat (se_call fnOf_len (sx_m se_var (sx_r se_var sx_nil)))) (sa_cons (se_dat (se_cb cb_max2 (sa_cons (se_rd se_int) (sa_cons (se_rd (se_op ops_sub (se_op ops_sub se_var se_int) (se_call fnOf_len (sx_m se_var (sx_r se_int sx_nil))))) sa_nil)))) (sa_cons (se_dat (se_op ops_div se_var se_int)) sa_nil)))))))
      (ss_append (se_cb cb_min2 (sa_cons (se_rd (se_op ops_sub se_var se_int)) (sa_cons (se_rd (se_op ops_ix se_var se_var)) sa_nil))))))
      (ss_ret (se_cb cb_tuple (sa_cons (se_rd se_var) sa_nil)))))))⟩
theorem ok_l_filled (T : Tx K mg) : FnG P w K mg base 3 T.a_l_filled T.d_l_filled P_l_filled (spF K 3 f_l_filled) := by
  refine mk_def T.f_l_filled sc_l_filled rfl rfl (fun cdv hkd A outer s H E hgd hr => ?_)
  exact ⟨_, (pss_cons (ps_set (i := 3) sc_l_filled.nd rfl (by first | exact Or.inl rfl | exact Or.inr rfl) (pe_op (op_mul' (K := K) rfl) (pe_lst (pa_cons pe_non pa_nil)) (pe_callB (k_len (K := K)) (by rfl) T.z_len (by decide +kernel) (pa_cons (pv 1) pa_nil))))
      (pss_cons (ps_for PassesOwn.never rfl (k_pi2 (K := K) (pv 2)) (pg_name (i := 4) sc_l_filled.nd rfl (by first | exact Or.inl rfl | exact Or.inr rfl))
      (pss_cons (ps_set (i := 5) sc_l_filled.nd rfl (by first | exact Or.inl rfl | exact Or.inr rfl) (pe_callG (ok_l_open T) hgd (hr.mono (by decide)) (by rfl) T.m_l_open T.f_l_open.kp T.b_l_open (pa_cons (pv 1) (pa_cons (pv 3) pa_nil))))
      (pss_one (ps_asg (pv 4) (pg_sub (pv 3) (pe_ix (ixr_seq (K := K) rfl) (pv 5) (pe_callG (ok_l_random T) hgd (hr.mono (by decide)) (by rfl) T.m_l_random T.f_l_random.kp T.b_l_random (pa_cons (pv 0) (pa_cons (pe_callB (k_len (K := K)) (by rfl) T.z_len (by decide +kernel) (pa_cons (pv 5) pa_nil)) pa_nil))) (fun _ _ => rfl)) set_list)))))
      (pss_one (ps_ret (pe_callTy (k_tuple (K := K)) (by rfl) T.z_tuple (by decide +kernel) (pa_cons (pv 3) pa_nil)))))),
    (ss_seq (ss_set (se_mul (se_lst (sa_cons (se_dat se_non) sa_nil)) (se_cb cb_len (sa_cons (se_rd se_var) sa_nil))))
      (ss_seq (ss_for (si_seq se_var) sg_name (ss_seq (ss_set (se_call fnOf_len (sx_r se_var (sx_r se_var sx_nil))))
      (ss_asg se_var (sg_sub (se_op ops_ix se_var (se_call fnOf_len (sx_m se_var (sx_r (se_cb cb_len (sa_cons (se_rd se_var) sa_nil)) sx_nil))))))))
      (ss_ret (se_cb cb_tuple (sa_cons (se_rd se_var) sa_nil)))))⟩
theorem ok_l_names (T : Tx K mg) : FnG P w K mg base 3 T.a_l_names T.d_l_names P_l_names (spF K 2 f_l_names) := by
  refine mk_def T.f_l_names sc_l_names rfl rfl (fun cdv hkd A outer s H E hgd hr => ?_)
  exact ⟨_, (pss_cons (ps_set (i := 2) sc_l_names.nd rfl (by first | exact Or.inl rfl | exact Or.inr rfl) (pe_callG (ok_l_random T) hgd (hr.mono (by decide)) (by rfl) T.m_l_random T.f_l_random.kp T.b_l_random (pa_cons (pv 0) (pa_cons pe_int pa_nil))))
      (pss_cons (ps_set (i := 3) sc_l_names.nd rfl (by first | exact Or.inl rfl | exact Or.inr rfl) (pe_lst pa_nil))
      (pss_cons (ps_set (i := 4) sc_l_names.nd rfl (by first | exact Or.inl rfl | exact Or.inr rfl) (pe_ix (ixr_seq (K := K) rfl) (pe_lst (pa_cons pe_int (pa_cons (pe_callG (ok_l_random T) hgd (hr.mono (by decide)) (by rfl) T.m_l_random T.f_l_random.kp T.b_l_random (pa_cons (pv 0) (pa_cons pe_int pa_nil))) (pa_cons (pe_op op_sub (pe_op op_sub (pe_op op_powW pe_int pe_int) pe_int) (pe_op (op_mul' (K := K) rfl) pe_int (pe_op (op_add' (K := K) rfl) (pv 1) pe_int))) pa_nil)))) (pv 2) (fun _ _ => rfl)))
      (pss_cons (ps_for PassesOwn.never rfl (pi_range1 (by rfl) T.z_range (pa_cons (pv 1) pa_nil)) (pg_name (i := 5) sc_l_names.nd rfl (by first | exact Or.inl rfl | exact Or.inr rfl))
      (pss_cons (ps_expr (pe_bm PySem.F.plainAttrs_list PySem.F.slot_list_append PySem.F.type_list_append mt_append (pv 3) (pa_cons (pv 4) pa_nil)))
      (pss_one (ps_set (i := 4) sc_l_names.nd rfl (by first | exact Or.inl rfl | exact Or.inr rfl) (pe_op (op_add' (K := K) rfl) (pe_op (op_add' (K := K) rfl) (pv 4) pe_int) (pe_callG (ok_l_random T) hgd (hr.mono (by decide)) (by rfl) T.m_l_random T.f_l_random.kp T.b_l_random (pa_cons (pv 0) (pa_cons (pe_ix (ixr_seq (K := K) rfl) (pe_lst (pa_cons pe_int (pa_cons pe_int (pa_cons pe_int pa_nil)))) (pv 2) (fun _ _ => rfl)) pa_nil))))))))
      (pss_one (ps_ret (pv 3))))))),
    (ss_seq (ss_set (se_call fnOf_len (sx_m se_var (sx_r se_int sx_nil))))
      (ss_seq (ss_set (se_lst sa_nil))
      (ss_seq (ss_set (se_op ops_ix (se_lst (sa_cons (se_dat se_int) (sa_cons (se_dat (se_call fnOf_len (sx_m se_var (sx_r se_int sx_nil)))) (sa_cons (se_dat (se_op ops_sub (se_op ops_sub (se_op ops_pow se_int se_int) se_int) (se_mul se_int (se_op ops_add se_var se_int)))) sa_nil)))) se_var))
      (ss_seq (ss_for (si_rng1 se_var) sg_name (ss_seq (ss_append se_var)
      (ss_set (se_op ops_add (se_op ops_add se_var se_int) (se_call fnOf_len (sx_m se_var (sx_r (se_op ops_ix (se_lst (sa_cons (se_dat se_int) (sa_cons (se_dat se_int) (sa_cons (se_dat se_int) sa_nil)))) se_var) sx_nil)))))))
      (ss_ret se_var)))))⟩
theorem ok_l_shuffled (T : Tx K mg) : FnG P w K mg base 3 T.a_l_shuffled T.d_l_shuffled P_l_shuffled (spF K 2 f_l_shuffled) := by
  refine mk_def T.f_l_shuffled sc_l_shuffled rfl rfl (fun cdv hkd A outer s H E hgd hr => ?_)
  exact ⟨_, (pss_cons (ps_set (i := 2) sc_l_shuffled.nd rfl (by first | exact Or.inl rfl | exact Or.inr rfl) (pe_callTy (k_list (K := K)) (by rfl) T.z_list (by decide +kernel) (pa_cons (pv 1) pa_nil)))
      (pss_one (ps_ret (pe_lc (own := [("_law_item", 3)]) rfl sc_l_shuffled.nd (k_pi2 (K := K) (pv 1)) (blkOk_by (N := N_l_shuffled) (sc := defScope s_l_shuffled) (by decide +kernel)) (fun _ _ _ _ _ => (pg_name (i := 3) sc_l_shuffled.nd rfl (by first | exact Or.inl rfl | exact Or.inr rfl))) (fun _ _ _ _ _ => pts_nil) (fun _ _ _ _ _ => (k_bmp (K := K) (pe_bm PySem.F.plainAttrs_list PySem.F.slot_list_pop PySem.F.type_list_pop mt_popAt (pv 2) (pa_cons (pe_callG (ok_l_random T) hgd (hr.mono (by decide)) (by rfl) T.m_l_random T.f_l_random.kp T.b_l_random (pa_cons (pv 0) (pa_cons (pe_callB (k_len (K := K)) (by rfl) T.z_len (by decide +kernel) (pa_cons (pv 2) pa_nil)) pa_nil))) pa_nil)))))))),
    (ss_seq (ss_set (se_cb cb_list (sa_cons (se_rd se_var) sa_nil)))
      (ss_ret (se_lc (si_seq se_var) sgc_name (by decide) st_yes (se_pop (se_call fnOf_len (sx_m se_var (sx_r (se_cb cb_len (sa_cons (se_rd se_var) sa_nil)) sx_nil)))))))⟩
theorem ok_check_chart (T : Tx K mg) : FnG P w K mg base 3 T.a_check_chart T.d_check_chart P_check_chart (spF K 1 f_check_chart) := by
  refine mk_def T.f_check_chart sc_check_chart rfl rfl (fun cdv hkd A outer s H E hgd hr => ?_)
  exact ⟨_, (pss_cons (ps_if (PW.pt (pw_or (pt_not (pt_val (pe_callB (k_isi (K := K)) (by rfl) T.z_isinstance (by decide +kernel) (pa_cons (pv 0) (pa_cons (pe_bltn (v := .ty "tuple") (by rfl) T.z_tuple (by decide +kernel) rfl) pa_nil))))) (pw_or (pt_cmpR (k_eq (K := K) hr.units) (pe_callB (k_len (K := K)) (by rfl) T.z_len (by decide +kernel) (pa_cons (pv 0) pa_nil)) pe_int (nomark _)) (pw_or1 (pt_cmpR op_notN (pe_ix (ixr_seq (K := K) rfl) (pv 0) pe_int (fun _ _ => rfl)) pe_non (nomark _)))))) (pss_one (ps_ret (pe_tupN (pa_cons pe_str pa_nil)))) pss_nil)
      (pss_cons (ps_for PassesOwn.never rfl (pi_range2 (by rfl) T.z_range (pa_cons pe_int (pa_cons (pe_callB (k_len (K := K)) (by rfl) T.z_len (by decide +kernel) (pa_cons (pv 0) pa_nil)) pa_nil))) (pg_name (i := 1) sc_check_chart.nd rfl (by first | exact Or.inl rfl | exact Or.inr rfl))
      (pss_one (ps_if (pt_not (pt_val (pe_callG (ok_is_post T) hgd (hr.mono (by decide)) (by rfl) T.m_is_post T.f_is_post.kp T.b_is_post (pa_cons (pe_ix (ixr_seq (K := K) rfl) (pv 0) (pv 1) (fun _ _ => rfl)) (pa_cons (pv 1) pa_nil))))) (pss_one (ps_ret (pe_tupN (pa_cons pe_str (pa_cons (pv 1) pa_nil))))) pss_nil)))
      (pss_one (ps_ret pe_non)))),
    (ss_seq (ss_if (st_or (st_not (st_val (se_isi se_var))) (st_or (st_cmp (se_op ops_eq (se_cb cb_len (sa_cons (se_rd se_var) sa_nil)) se_int)) (st_cmp (se_op ops_notN (se_op ops_ix se_var se_int) se_non)))) (ss_ret (se_tup (sa_cons (se_dat se_str) sa_nil))) ss_next)
      (ss_seq (ss_for (si_rng2 se_int (se_cb cb_len (sa_cons (se_rd se_var) sa_nil))) sg_name (ss_if (st_not (st_val (se_call fnOf_len (sx_r (se_op ops_ix se_var se_var) (sx_r se_var sx_nil))))) (ss_ret (se_tup (sa_cons (se_dat se_str) (sa_cons (se_dat se_var) sa_nil)))) ss_next))
      (ss_ret se_non)))⟩
theorem ok_is_person (T : Tx K mg) : FnG P w K mg base 3 T.a_is_person T.d_is_person P_is_person (spF K 1 f_is_person) := by
  refine mk_def T.f_is_person sc_is_person rfl rfl (fun cdv hkd A outer s H E hgd hr => ?_)
  exact ⟨_, (pss_one (ps_ret (pe_callG (ok_is_amount T) hgd (hr.mono (by decide)) (by rfl) T.m_is_amount T.f_is_amount.kp T.b_is_amount (pa_cons (pv 0) pa_nil)))),
    (ss_ret (se_call fnOf_len (sx_r se_var sx_nil)))⟩
theorem ok_after_departures (T : Tx K mg) : FnG P w K mg base 3 T.a_after_departures T.d_after_departures P_after_departures (spF K 3 f_after_departures) := by
  refine mk_def T.f_after_departures sc_after_departures rfl rfl (fun cdv hkd A outer s H E hgd hr => ?_)
  exact ⟨_, (pss_cons (ps_set (i := 3) sc_after_departures.nd rfl (by first | exact Or.inl rfl | exact Or.inr rfl) (pe_callG (ok_posts_under T) hgd (hr.mono (by decide)) (by rfl) T.m_posts_under T.f_posts_under.kp T.b_posts_under (pa_cons (pv 0) pa_nil)))
      (pss_cons (ps_set (i := 4) sc_after_departures.nd rfl (by first | exact Or.inl rfl | exact Or.inr rfl) (pe_callTy (k_list (K := K)) (by rfl) T.z_list (by decide +kernel) (pa_cons (pv 1) pa_nil)))
      (pss_cons (ps_for PassesOwn.never rfl (k_pi2 (K := K) (pv 2)) (pg_name (i := 5) sc_after_departures.nd rfl (by first | exact Or.inl rfl | exact Or.inr rfl))
      (pss_one (ps_expr (pe_callG (ok_depart T) hgd (hr.mono (by decide)) (by rfl) T.m_depart T.f_depart.kp T.b_depart (pa_cons (pv 3) (pa_cons (pv 4) (pa_cons (pv 5) pa_nil)))))))
      (pss_one (ps_ret (pe_callTy (k_tuple (K := K)) (by rfl) T.z_tuple (by decide +kernel) (pa_cons (pv 4) pa_nil))))))),
    (ss_seq (ss_set (se_call under_len (sx_r se_var sx_nil)))
      (ss_seq (ss_set (se_cb cb_list (sa_cons (se_rd se_var) sa_nil)))
      (ss_seq (ss_for (si_seq se_var) sg_name (ss_expr (se_call fnOf_len (sx_r se_var (sx_m se_var (sx_r se_var sx_nil))))))
      (ss_ret (se_cb cb_tuple (sa_cons (se_rd se_var) sa_nil))))))⟩
theorem ok_require_post (T : Tx K mg) : FnG P w K mg base 3 T.a_require_post T.d_require_post P_require_post (spF K 2 f_require_post) := by
  refine mk_def T.f_require_post sc_require_post rfl rfl (fun cdv hkd A outer s H E hgd hr => ?_)
  exact ⟨_, (pss_one (ps_if (pt_not (pt_val (pe_callG (ok_is_post T) hgd (hr.mono (by decide)) (by rfl) T.m_is_post T.f_is_post.kp T.b_is_post (pa_cons (pv 1) (pa_cons (pe_callB (k_len (K := K)) (by rfl) T.z_len (by decide +kernel) (pa_cons (pv 0) pa_nil)) pa_nil))))) (pss_one ps_never) pss_nil)),
    (ss_if (st_not (st_val (se_call fnOf_len (sx_r se_var (sx_r (se_cb cb_len (sa_cons (se_rd se_var) sa_nil)) sx_nil))))) ss_never ss_next)⟩
theorem ok_l_random_rows (T : Tx K mg) : FnG P w K mg base 4 T.a_l_random_rows T.d_l_random_rows P_l_random_rows (spF K 2 f_l_random_rows) := by
  refine mk_def T.f_l_random_rows sc_l_random_rows rfl rfl (fun cdv hkd A outer s H E hgd hr => ?_)
  exact ⟨_, (pss_cons (ps_set (i := 2) sc_l_random_rows.nd rfl (by first | exact Or.inl rfl | exact Or.inr rfl) (pe_callB (k_len (K := K)) (by rfl) T.z_len (by decide +kernel) (pa_cons (pv 1) pa_nil)))
      (pss_cons (ps_set (i := 3) sc_l_random_rows.nd rfl (by first | exact Or.inl rfl | exact Or.inr rfl) (pe_ix (ixr_seq (K := K) rfl) (pe_lst (pa_cons (pv 2) (pa_cons (pv 2) (pa_cons (pe_callG (ok_l_random T) hgd (hr.mono (by decide)) (by rfl) T.m_l_random T.f_l_random.kp T.b_l_random (pa_cons (pv 0) (pa_cons (pe_op (op_add' (K := K) rfl) (pv 2) pe_int) pa_nil))) pa_nil)))) (pe_callG (ok_l_random T) hgd (hr.mono (by decide)) (by rfl) T.m_l_random T.f_l_random.kp T.b_l_random (pa_cons (pv 0) (pa_cons pe_int pa_nil))) (fun _ _ => rfl)))
      (pss_one (ps_ret (pe_callG (ok_l_filled T) hgd (hr.mono (by decide)) (by rfl) T.m_l_filled T.f_l_filled.kp T.b_l_filled (pa_cons (pv 0) (pa_cons (pv 1) (pa_cons (pe_callG (ok_l_names T) hgd (hr.mono (by decide)) (by rfl) T.m_l_names T.f_l_names.kp T.b_l_names (pa_cons (pv 0) (pa_cons (pv 3) pa_nil))) pa_nil)))))))),
    (ss_seq (ss_set (se_cb cb_len (sa_cons (se_rd se_var) sa_nil)))
      (ss_seq (ss_set (se_op ops_ix (se_lst (sa_cons (se_dat se_var) (sa_cons (se_dat se_var) (sa_cons (se_dat (se_call fnOf_len (sx_m se_var (sx_r (se_op ops_add se_var se_int) sx_nil)))) sa_nil)))) (se_call fnOf_len (sx_m se_var (sx_r se_int sx_nil)))))
      (ss_ret (se_call fnOf_len (sx_m se_var (sx_r se_var (sx_r (se_call fnOf_len (sx_m se_var (sx_r se_var sx_nil))) sx_nil)))))))⟩
theorem ok_l_some (T : Tx K mg) : FnG P w K mg base 4 T.a_l_some T.d_l_some P_l_some (spF K 2 f_l_some) := by
  refine mk_def T.f_l_some sc_l_some rfl rfl (fun cdv hkd A outer s H E hgd hr => ?_)
  exact ⟨_, (pss_one (ps_ret (pe_lc (own := [("_law_name", 2)]) rfl sc_l_some.nd (k_pi2 (K := K) (pe_callG (ok_l_shuffled T) hgd (hr.mono (by decide)) (by rfl) T.m_l_shuffled T.f_l_shuffled.kp T.b_l_shuffled (pa_cons (pv 0) (pa_cons (pv 1) pa_nil)))) (blkOk_by (N := N_l_some) (sc := defScope s_l_some) (by decide +kernel)) (fun _ _ _ _ _ => (pg_name (i := 2) sc_l_some.nd rfl (by first | exact Or.inl rfl | exact Or.inr rfl))) (fun _ _ _ _ _ => (pts_one (pt_cmpR (k_eq (K := K) hr.units) (pe_callG (ok_l_random T) hgd (hr.mono (by decide)) (by rfl) T.m_l_random T.f_l_random.kp T.b_l_random (pa_cons (pv 0) (pa_cons pe_int pa_nil))) pe_int (nomark _)))) (fun _ _ _ _ _ => (pv 2))))),
    (ss_ret (se_lc (si_seq (se_call fnOf_len (sx_m se_var (sx_r se_var sx_nil)))) sgc_name (by decide) (st_cmp (se_op ops_eq (se_call fnOf_len (sx_m se_var (sx_r se_int sx_nil))) se_int)) se_var))⟩
theorem ok_require_chart (T : Tx K mg) : FnG P w K mg base 4 T.a_require_chart T.d_require_chart P_require_chart (spF K 1 f_require_chart) := by
  refine mk_def T.f_require_chart sc_require_chart rfl rfl (fun cdv hkd A outer s H E hgd hr => ?_)
  exact ⟨_, (pss_cons (ps_set (i := 1) sc_require_chart.nd rfl (by first | exact Or.inl rfl | exact Or.inr rfl) (pe_callG (ok_check_chart T) hgd (hr.mono (by decide)) (by rfl) T.m_check_chart T.f_check_chart.kp T.b_check_chart (pa_cons (pv 0) pa_nil)))
      (pss_one (ps_if (pt_cmpR op_notN (pv 1) pe_non (nomark _)) (pss_one ps_never) pss_nil))),
    (ss_seq (ss_set (se_call fnOf_len (sx_r se_var sx_nil)))
      (ss_if (st_cmp (se_op ops_notN se_var se_non)) ss_never ss_next))⟩
theorem ok_is_holder (T : Tx K mg) : FnG P w K mg base 4 T.a_is_holder T.d_is_holder P_is_holder (spF K 2 f_is_holder) := by
  refine mk_def T.f_is_holder sc_is_holder rfl rfl (fun cdv hkd A outer s H E hgd hr => ?_)
  exact ⟨_, (pss_one (ps_ret (pe_and (pe_callG (ok_is_person T) hgd (hr.mono (by decide)) (by rfl) T.m_is_person T.f_is_person.kp T.b_is_person (pa_cons (pv 1) pa_nil)) (pe_one (pe_cmpR (k_in (K := K)) (pv 1) (pv 0) (by rfl)))))),
    (ss_ret (se_and (se_call fnOf_len (sx_r se_var sx_nil)) (se_op (ops_in (neg := false)) se_var se_var)))⟩
theorem ok_check_arrangement (T : Tx K mg) : FnG P w K mg base 5 T.a_check_arrangement T.d_check_arrangement P_check_arrangement (spF K 2 f_check_arrangement) := by
  refine mk_def T.f_check_arrangement sc_check_arrangement rfl rfl (fun cdv hkd A outer s H E hgd hr => ?_)
  exact ⟨_, (pss_cons (ps_expr (pe_callG (ok_require_chart T) hgd (hr.mono (by decide)) (by rfl) T.m_require_chart T.f_require_chart.kp T.b_require_chart (pa_cons (pv 0) pa_nil)))
      (pss_cons (ps_if (PW.pt (pw_or (pt_not (pt_val (pe_callB (k_isi (K := K)) (by rfl) T.z_isinstance (by decide +kernel) (pa_cons (pv 1) (pa_cons (pe_bltn (v := .ty "tuple") (by rfl) T.z_tuple (by decide +kernel) rfl) pa_nil))))) (pw_or1 (pt_cmpR (k_ne (K := K) hr.units) (pe_callB (k_len (K := K)) (by rfl) T.z_len (by decide +kernel) (pa_cons (pv 1) pa_nil)) (pe_callB (k_len (K := K)) (by rfl) T.z_len (by decide +kernel) (pa_cons (pv 0) pa_nil)) (nomark _))))) (pss_one (ps_ret (pe_tupN (pa_cons pe_str pa_nil)))) pss_nil)
      (pss_cons (ps_for PassesOwn.never rfl (pi_enum2 (K := K) (by rfl) T.z_enumerate (pa_cons (pv 1) pa_nil)) (pg_tup rfl (pgs_cons (pg_name (i := 2) sc_check_arrangement.nd rfl (by first | exact Or.inl rfl | exact Or.inr rfl)) (pgs_cons (pg_name (i := 3) sc_check_arrangement.nd rfl (by first | exact Or.inl rfl | exact Or.inr rfl)) pgs_nil)))
      (pss_one (ps_if (PW.pt (pw_and (pt_cmpR op_notN (pv 3) pe_non (nomark _)) (pw_and1 (pt_not (pt_val (pe_callG (ok_is_person T) hgd (hr.mono (by decide)) (by rfl) T.m_is_person T.f_is_person.kp T.b_is_person (pa_cons (pv 3) pa_nil))))))) (pss_one (ps_ret (pe_tupN (pa_cons pe_str (pa_cons (pv 2) pa_nil))))) pss_nil)))
      (pss_cons (ps_set (i := 4) sc_check_arrangement.nd rfl (by first | exact Or.inl rfl | exact Or.inr rfl) (pe_callTy0 cr_set0N (by rfl) T.z_set (by decide +kernel)))
      (pss_cons (ps_for PassesOwn.never rfl (pi_enum2 (K := K) (by rfl) T.z_enumerate (pa_cons (pv 1) pa_nil)) (pg_tup rfl (pgs_cons (pg_name (i := 2) sc_check_arrangement.nd rfl (by first | exact Or.inl rfl | exact Or.inr rfl)) (pgs_cons (pg_name (i := 3) sc_check_arrangement.nd rfl (by first | exact Or.inl rfl | exact Or.inr rfl)) pgs_nil)))
      (pss_cons (ps_if (PW.pt (pw_and (pt_cmpR op_notN (pv 3) pe_non (nomark _)) (pw_and1 (pt_cmpR (k_sinN (w := w)) (pv 3) (pv 4) (by rfl))))) (pss_one (ps_ret (pe_tupN (pa_cons pe_str (pa_cons (pv 2) pa_nil))))) pss_nil)
      (pss_one (ps_expr (pe_saddN (pv 4) (pa_cons (pv 3) pa_nil))))))
      (pss_cons (ps_for PassesOwn.never rfl (pi_range2 (by rfl) T.z_range (pa_cons pe_int (pa_cons (pe_callB (k_len (K := K)) (by rfl) T.z_len (by decide +kernel) (pa_cons (pv 0) pa_nil)) pa_nil))) (pg_name (i := 2) sc_check_arrangement.nd rfl (by first | exact Or.inl rfl | exact Or.inr rfl))
      (pss_one (ps_if (PW.pt (pw_and (pt_cmpR op_notN (pe_ix (ixr_seq (K := K) rfl) (pv 1) (pv 2) (fun _ _ => rfl)) pe_non (nomark _)) (pw_and1 (pt_not (pt_val (pe_callG (ok_may_stand_below T) hgd (hr.mono (by decide)) (by rfl) T.m_may_stand_below T.f_may_stand_below.kp T.b_may_stand_below (pa_cons (pe_ix (ixr_seq (K := K) rfl) (pv 1) (pv 2) (fun _ _ => rfl)) (pa_cons (pe_ix (ixr_seq (K := K) rfl) (pv 1) (pe_ix (ixr_seq (K := K) rfl) (pv 0) (pv 2) (fun _ _ => rfl)) (fun _ _ => rfl)) pa_nil)))))))) (pss_one (ps_ret (pe_tupN (pa_cons pe_str (pa_cons (pv 2) pa_nil))))) pss_nil)))
      (pss_one (ps_ret pe_non)))))))),
    (ss_seq (ss_expr (se_call fnOf_len (sx_r se_var sx_nil)))
      (ss_seq (ss_if (st_or (st_not (st_val (se_isi se_var))) (st_cmp (se_op ops_ne (se_cb cb_len (sa_cons (se_rd se_var) sa_nil)) (se_cb cb_len (sa_cons (se_rd se_var) sa_nil))))) (ss_ret (se_tup (sa_cons (se_dat se_str) sa_nil))) ss_next)
      (ss_seq (ss_for (si_enum se_var) (sg_tup (sgs_cons sg_name (sgs_cons sg_name sgs_nil))) (ss_if (st_and (st_cmp (se_op ops_notN se_var se_non)) (st_not (st_val (se_call fnOf_len (sx_r se_var sx_nil))))) (ss_ret (se_tup (sa_cons (se_dat se_str) (sa_cons (se_dat se_var) sa_nil)))) ss_next))
      (ss_seq ss_setN
      (ss_seq (ss_for (si_enum se_var) (sg_tup (sgs_cons sg_name (sgs_cons sg_name sgs_nil))) (ss_seq (ss_if (st_and (st_cmp (se_op ops_notN se_var se_non)) (st_cmp (se_inN (neg := false) se_var))) (ss_ret (se_tup (sa_cons (se_dat se_str) (sa_cons (se_dat se_var) sa_nil)))) ss_next)
      (ss_addN se_var)))
      (ss_seq (ss_for (si_rng2 se_int (se_cb cb_len (sa_cons (se_rd se_var) sa_nil))) sg_name (ss_if (st_and (st_cmp (se_op ops_notN (se_op ops_ix se_var se_var) se_non)) (st_not (st_val (se_call fnOf_len (sx_r (se_op ops_ix se_var se_var) (sx_r (se_op ops_ix se_var (se_op ops_ix se_var se_var)) sx_nil)))))) (ss_ret (se_tup (sa_cons (se_dat se_str) (sa_cons (se_dat se_var) sa_nil)))) ss_next))
      (ss_ret se_non)))))))⟩
theorem ok_first_misfit (T : Tx K mg) : FnG P w K mg base 5 T.a_first_misfit T.d_first_misfit P_first_misfit (spF K 2 f_first_misfit) := by
  refine mk_def T.f_first_misfit sc_first_misfit rfl rfl (fun cdv hkd A outer s H E hgd hr => ?_)
  exact ⟨_, (pss_cons (ps_set (i := 2) sc_first_misfit.nd rfl (by first | exact Or.inl rfl | exact Or.inr rfl) (pe_callTy0 cr_set0N (by rfl) T.z_set (by decide +kernel)))
      (pss_cons (ps_for PassesOwn.never rfl (pi_enum2 (K := K) (by rfl) T.z_enumerate (pa_cons (pv 1) pa_nil)) (pg_tup rfl (pgs_cons (pg_name (i := 3) sc_first_misfit.nd rfl (by first | exact Or.inl rfl | exact Or.inr rfl)) (pgs_cons (pg_name (i := 4) sc_first_misfit.nd rfl (by first | exact Or.inl rfl | exact Or.inr rfl)) pgs_nil)))
      (pss_cons (ps_if (PW.pt (pw_or (pt_not (pt_val (pe_callG (ok_is_holder T) hgd (hr.mono (by decide)) (by rfl) T.m_is_holder T.f_is_holder.kp T.b_is_holder (pa_cons (pv 0) (pa_cons (pv 4) pa_nil))))) (pw_or1 (pt_cmpR (k_sinN (w := w)) (pv 4) (pv 2) (by rfl))))) (pss_one (ps_ret (pv 3))) pss_nil)
      (pss_one (ps_expr (pe_saddN (pv 2) (pa_cons (pv 4) pa_nil))))))
      (pss_one (ps_ret pe_non)))),
    (ss_seq ss_setN
      (ss_seq (ss_for (si_enum se_var) (sg_tup (sgs_cons sg_name (sgs_cons sg_name sgs_nil))) (ss_seq (ss_if (st_or (st_not (st_val (se_call fnOf_len (sx_r se_var (sx_r se_var sx_nil))))) (st_cmp (se_inN (neg := false) se_var))) (ss_ret se_var) ss_next)
      (ss_addN se_var)))
      (ss_ret se_non)))⟩
theorem ok_posts_below (T : Tx K mg) : FnG P w K mg base 5 T.a_posts_below T.d_posts_below P_posts_below (spF K 2 f_posts_below) := by
  refine mk_def T.f_posts_below sc_posts_below rfl rfl (fun cdv hkd A outer s H E hgd hr => ?_)
  exact ⟨_, (pss_cons (ps_expr (pe_callG (ok_require_chart T) hgd (hr.mono (by decide)) (by rfl) T.m_require_chart T.f_require_chart.kp T.b_require_chart (pa_cons (pv 0) pa_nil)))
      (pss_cons (ps_expr (pe_callG (ok_require_post T) hgd (hr.mono (by decide)) (by rfl) T.m_require_post T.f_require_post.kp T.b_require_post (pa_cons (pv 0) (pa_cons (pv 1) pa_nil))))
      (pss_cons (ps_set (i := 2) sc_posts_below.nd rfl (by first | exact Or.inl rfl | exact Or.inr rfl) (pe_set1 hkd (pv 1)))
      (pss_cons (ps_for PassesOwn.never rfl (pi_range2 (by rfl) T.z_range (pa_cons (pe_op (op_add' (K := K) rfl) (pv 1) pe_int) (pa_cons (pe_callB (k_len (K := K)) (by rfl) T.z_len (by decide +kernel) (pa_cons (pv 0) pa_nil)) pa_nil))) (pg_name (i := 3) sc_posts_below.nd rfl (by first | exact Or.inl rfl | exact Or.inr rfl))
      (pss_one (ps_if (pt_cmpR (k_sin (w := w)) (pe_ix (ixr_seq (K := K) rfl) (pv 0) (pv 3) (fun _ _ => rfl)) (pv 2) (by rfl)) (pss_one (ps_expr (pe_sadd (pv 2) (pa_cons (pv 3) pa_nil)))) pss_nil)))
      (pss_one (ps_ret (pe_callB (k_sortedSet (w := w) rfl) (by rfl) T.z_sorted (by decide +kernel) (pa_cons (pv 2) pa_nil)))))))),
    (ss_seq (ss_expr (se_call fnOf_len (sx_r se_var sx_nil)))
      (ss_seq (ss_expr (se_call fnOf_len (sx_r se_var (sx_r se_var sx_nil))))
      (ss_seq (ss_set1 se_var)
      (ss_seq (ss_for (si_rng2 (se_op ops_add se_var se_int) (se_cb cb_len (sa_cons (se_rd se_var) sa_nil))) sg_name (ss_if (st_cmp (se_inI (se_op ops_ix se_var se_var))) (ss_addI se_var) ss_next))
      (ss_ret se_sortSet)))))⟩
theorem ok_path_to (T : Tx K mg) : FnG P w K mg base 5 T.a_path_to T.d_path_to P_path_to (spF K 2 f_path_to) := by
  refine mk_def T.f_path_to sc_path_to rfl rfl (fun cdv hkd A outer s H E hgd hr => ?_)
  exact ⟨_, (pss_cons (ps_expr (pe_callG (ok_require_chart T) hgd (hr.mono (by decide)) (by rfl) T.m_require_chart T.f_require_chart.kp T.b_require_chart (pa_cons (pv 0) pa_nil)))
      (pss_cons (ps_expr (pe_callG (ok_require_post T) hgd (hr.mono (by decide)) (by rfl) T.m_require_post T.f_require_post.kp T.b_require_post (pa_cons (pv 0) (pa_cons (pv 1) pa_nil))))
      (pss_one (ps_ret (pe_callG (ok_way_down T) hgd (hr.mono (by decide)) (by rfl) T.m_way_down T.f_way_down.kp T.b_way_down (pa_cons (pv 0) (pa_cons (pv 1) pa_nil))))))),
    (ss_seq (ss_expr (se_call fnOf_len (sx_r se_var sx_nil)))
      (ss_seq (ss_expr (se_call fnOf_len (sx_r se_var (sx_r se_var sx_nil))))
      (ss_ret (se_call fnOf_len (sx_r se_var (sx_r se_var sx_nil))))))⟩
theorem ok_require_arrangement (T : Tx K mg) : FnG P w K mg base 6 T.a_require_arrangement T.d_require_arrangement P_require_arrangement (spF K 2 f_require_arrangement) := by
  refine mk_def T.f_require_arrangement sc_require_arrangement rfl rfl (fun cdv hkd A outer s H E hgd hr => ?_)
  exact ⟨_, (pss_cons (ps_set (i := 2) sc_require_arrangement.nd rfl (by first | exact Or.inl rfl | exact Or.inr rfl) (pe_callG (ok_check_arrangement T) hgd (hr.mono (by decide)) (by rfl) T.m_check_arrangement T.f_check_arrangement.kp T.b_check_arrangement (pa_cons (pv 0) (pa_cons (pv 1) pa_nil))))
      (pss_one (ps_if (pt_cmpR op_notN (pv 2) pe_non (nomark _)) (pss_one ps_never) pss_nil))),
    (ss_seq (ss_set (se_call fnOf_len (sx_r se_var (sx_r se_var sx_nil))))
      (ss_if (st_cmp (se_op ops_notN se_var se_non)) ss_never ss_next))⟩
theorem ok_require_leavers (T : Tx K mg) : FnG P w K mg base 6 T.a_require_leavers T.d_require_leavers P_require_leavers (spF K 2 f_require_leavers) := by
  refine mk_def T.f_require_leavers sc_require_leavers rfl rfl (fun cdv hkd A outer s H E hgd hr => ?_)
  exact ⟨_, (pss_cons (ps_set (i := 2) sc_require_leavers.nd rfl (by first | exact Or.inl rfl | exact Or.inr rfl) (pe_callG (ok_first_misfit T) hgd (hr.mono (by decide)) (by rfl) T.m_first_misfit T.f_first_misfit.kp T.b_first_misfit (pa_cons (pv 0) (pa_cons (pv 1) pa_nil))))
      (pss_one (ps_if (pt_cmpR op_notN (pv 2) pe_non (nomark _)) (pss_one ps_never) pss_nil))),
    (ss_seq (ss_set (se_call fnOf_len (sx_r se_var (sx_r se_var sx_nil))))
      (ss_if (st_cmp (se_op ops_notN se_var se_non)) ss_never ss_next))⟩
theorem ok_require_people (T : Tx K mg) : FnG P w K mg base 6 T.a_require_people T.d_require_people P_require_people (spF K 2 f_require_people) := by
  refine mk_def T.f_require_people sc_require_people rfl rfl (fun cdv hkd A outer s H E hgd hr => ?_)
  exact ⟨_, (pss_cons (ps_if (pt_not (pt_val (pe_callB (k_isi (K := K)) (by rfl) T.z_isinstance (by decide +kernel) (pa_cons (pv 1) (pa_cons (pe_bltn (v := .ty "list") (by rfl) T.z_list (by decide +kernel) rfl) pa_nil))))) (pss_one ps_never) pss_nil)
      (pss_cons (ps_set (i := 2) sc_require_people.nd rfl (by first | exact Or.inl rfl | exact Or.inr rfl) (pe_callG (ok_first_misfit T) hgd (hr.mono (by decide)) (by rfl) T.m_first_misfit T.f_first_misfit.kp T.b_first_misfit (pa_cons (pv 0) (pa_cons (pv 1) pa_nil))))
      (pss_one (ps_if (pt_cmpR op_notN (pv 2) pe_non (nomark _)) (pss_one ps_never) pss_nil)))),
    (ss_seq (ss_if (st_not (st_val (se_isi se_var))) ss_never ss_next)
      (ss_seq (ss_set (se_call fnOf_len (sx_r se_var (sx_r se_var sx_nil))))
      (ss_if (st_cmp (se_op ops_notN se_var se_non)) ss_never ss_next)))⟩
theorem ok_leave (T : Tx K mg) : FnRG P w K mg base 7 T.a_leave (spS2 K f_leave) := by
  refine mk_star T.f_leave sc_leave rfl (fun _ _ _ _ _ _ => StX.bind_star2 (B := fun us => bindArgs _ ⟨us, []⟩) (fun _ _ => rfl) (fun _ _ _ _ => rfl)) (fun cdv hkd A outer s H E hgd hr => ?_)
  exact ⟨_, (pss_cons (ps_expr (pe_callG (ok_require_arrangement T) hgd (hr.mono (by decide)) (by rfl) T.m_require_arrangement T.f_require_arrangement.kp T.b_require_arrangement (pa_cons (pv 0) (pa_cons (pv 1) pa_nil))))
      (pss_cons (ps_expr (pe_callG (ok_require_leavers T) hgd (hr.mono (by decide)) (by rfl) T.m_require_leavers T.f_require_leavers.kp T.b_require_leavers (pa_cons (pv 1) (pa_cons (pv 2) pa_nil))))
      (pss_cons (ps_if (pt_cmpR (k_eq (K := K) hr.units) (pe_callB (k_len (K := K)) (by rfl) T.z_len (by decide +kernel) (pa_cons (pv 2) pa_nil)) pe_int (nomark _)) (pss_one (ps_ret (pv 1))) pss_nil)
      (pss_one (ps_ret (pe_callG (ok_after_departures T) hgd (hr.mono (by decide)) (by rfl) T.m_after_departures T.f_after_departures.kp T.b_after_departures (pa_cons (pv 0) (pa_cons (pv 1) (pa_cons (pv 2) pa_nil))))))))),
    (ss_seq (ss_expr (se_call fnOf_len (sx_r se_var (sx_r se_var sx_nil))))
      (ss_seq (ss_expr (se_call fnOf_len (sx_r se_var (sx_r se_var sx_nil))))
      (ss_seq (ss_if (st_cmp (se_op ops_eq (se_cb cb_len (sa_cons (se_rd se_var) sa_nil)) se_int)) (ss_ret se_var) ss_next)
      (ss_ret (se_call fnOf_len (sx_r se_var (sx_r se_var (sx_r se_var sx_nil))))))))⟩
theorem ok_reduced (T : Tx K mg) : FnG P w K mg base 7 T.a_reduced T.d_reduced P_reduced (spF K 3 f_reduced) := by
  refine mk_def T.f_reduced sc_reduced rfl rfl (fun cdv hkd A outer s H E hgd hr => ?_)
  exact ⟨_, (pss_cons (ps_expr (pe_callG (ok_require_arrangement T) hgd (hr.mono (by decide)) (by rfl) T.m_require_arrangement T.f_require_arrangement.kp T.b_require_arrangement (pa_cons (pv 0) (pa_cons (pv 1) pa_nil))))
      (pss_cons (ps_expr (pe_callG (ok_require_people T) hgd (hr.mono (by decide)) (by rfl) T.m_require_people T.f_require_people.kp T.b_require_people (pa_cons (pv 1) (pa_cons (pv 2) pa_nil))))
      (pss_cons (ps_setLc (i := 3) (own := [("person", 4)]) rfl sc_reduced.nd rfl rfl (sw_true rfl rfl rfl (by decide +kernel)) (k_pi2 (K := K) (pe_callG (ok_people_of T) hgd (hr.mono (by decide)) (by rfl) T.m_people_of T.f_people_of.kp T.b_people_of (pa_cons (pv 1) pa_nil))) (blkOk_by (N := N_reduced) (sc := defScope s_reduced) (by decide +kernel)) (fun _ _ _ _ _ => (pg_name (i := 4) sc_reduced.nd rfl (by first | exact Or.inl rfl | exact Or.inr rfl))) (fun _ _ _ _ _ => (pts_one (pt_cmpR (k_notin (K := K)) (pv 4) (pv 2) (by rfl)))) (fun _ _ _ _ _ => (pv 4)))
      (pss_one (ps_ret (pe_callG (ok_after_departures T) hgd (hr.mono (by decide)) (by rfl) T.m_after_departures T.f_after_departures.kp T.b_after_departures (pa_cons (pv 0) (pa_cons (pv 1) (pa_cons (pv 3) pa_nil))))))))),
    (ss_seq (ss_expr (se_call fnOf_len (sx_r se_var (sx_r se_var sx_nil))))
      (ss_seq (ss_expr (se_call fnOf_len (sx_r se_var (sx_r se_var sx_nil))))
      (ss_seq (ss_set (se_lc (si_seq (se_call fnOf_len (sx_r se_var sx_nil))) sgc_name (by decide) (st_cmp (se_op (ops_in (neg := true)) se_var se_var)) se_var))
      (ss_ret (se_call fnOf_len (sx_r se_var (sx_r se_var (sx_r se_var sx_nil))))))))⟩
theorem ok_post_of (T : Tx K mg) : FnG P w K mg base 7 T.a_post_of T.d_post_of P_post_of (spF K 3 f_post_of) := by
  refine mk_def T.f_post_of sc_post_of rfl rfl (fun cdv hkd A outer s H E hgd hr => ?_)
  exact ⟨_, (pss_cons (ps_expr (pe_callG (ok_require_arrangement T) hgd (hr.mono (by decide)) (by rfl) T.m_require_arrangement T.f_require_arrangement.kp T.b_require_arrangement (pa_cons (pv 0) (pa_cons (pv 1) pa_nil))))
      (pss_cons (ps_if (pt_not (pt_val (pe_callG (ok_is_person T) hgd (hr.mono (by decide)) (by rfl) T.m_is_person T.f_is_person.kp T.b_is_person (pa_cons (pv 2) pa_nil)))) (pss_one ps_never) pss_nil)
      (pss_one (ps_ret (pe_callG (ok_place_of T) hgd (hr.mono (by decide)) (by rfl) T.m_place_of T.f_place_of.kp T.b_place_of (pa_cons (pv 1) (pa_cons (pv 2) pa_nil))))))),
    (ss_seq (ss_expr (se_call fnOf_len (sx_r se_var (sx_r se_var sx_nil))))
      (ss_seq (ss_if (st_not (st_val (se_call fnOf_len (sx_r se_var sx_nil)))) ss_never ss_next)
      (ss_ret (se_call fnOf_len (sx_r se_var (sx_r se_var sx_nil))))))⟩
theorem ok_require_remaining (T : Tx K mg) : FnG P w K mg base 7 T.a_require_remaining T.d_require_remaining P_require_remaining (spF K 4 f_require_remaining) := by
  refine mk_def T.f_require_remaining sc_require_remaining rfl rfl (fun cdv hkd A outer s H E hgd hr => ?_)
  exact ⟨_, (pss_cons (ps_expr (pe_callG (ok_require_arrangement T) hgd (hr.mono (by decide)) (by rfl) T.m_require_arrangement T.f_require_arrangement.kp T.b_require_arrangement (pa_cons (pv 0) (pa_cons (pv 1) pa_nil))))
      (pss_cons (ps_expr (pe_callG (ok_require_people T) hgd (hr.mono (by decide)) (by rfl) T.m_require_people T.f_require_people.kp T.b_require_people (pa_cons (pv 1) (pa_cons (pv 2) pa_nil))))
      (pss_one (ps_if (PW.pt (pw_or (pt_not (pt_val (pe_callG (ok_is_holder T) hgd (hr.mono (by decide)) (by rfl) T.m_is_holder T.f_is_holder.kp T.b_is_holder (pa_cons (pv 1) (pa_cons (pv 3) pa_nil))))) (pw_or1 (pt_cmpR (k_in (K := K)) (pv 3) (pv 2) (by rfl))))) (pss_one ps_never) pss_nil)))),
    (ss_seq (ss_expr (se_call fnOf_len (sx_r se_var (sx_r se_var sx_nil))))
      (ss_seq (ss_expr (se_call fnOf_len (sx_r se_var (sx_r se_var sx_nil))))
      (ss_if (st_or (st_not (st_val (se_call fnOf_len (sx_r se_var (sx_r se_var sx_nil))))) (st_cmp (se_op (ops_in (neg := false)) se_var se_var))) ss_never ss_next)))⟩
theorem ok_l_one_by_one (T : Tx K mg) : FnG P w K mg base 8 T.a_l_one_by_one T.d_l_one_by_one P_l_one_by_one (spF K 3 f_l_one_by_one) := by
  refine mk_def T.f_l_one_by_one sc_l_one_by_one rfl rfl (fun cdv hkd A outer s H E hgd hr => ?_)
  exact ⟨_, (pss_cons (ps_for PassesOwn.never rfl (k_pi2 (K := K) (pv 2)) (pg_name (i := 3) sc_l_one_by_one.nd rfl (by first | exact Or.inl rfl | exact Or.inr rfl))
      (pss_cons (ps_set (i := 1) sc_l_one_by_one.nd rfl (by first | exact Or.inl rfl | exact Or.inr rfl) (pe_callRG (ok_leave T) hgd (hr.mono (by decide)) (by rfl) T.m_leave T.f_leave.kp (pa_cons (pv 0) (pa_cons (pv 1) (pa_cons (pv 3) pa_nil)))))
      (pss_one (ps_if (pt_cmpR op_notN (pe_callG (ok_check_arrangement T) hgd (hr.mono (by decide)) (by rfl) T.m_check_arrangement T.f_check_arrangement.kp T.b_check_arrangement (pa_cons (pv 0) (pa_cons (pv 1) pa_nil))) pe_non (nomark _)) (pss_one (ps_ret pe_non)) pss_nil))))
      (pss_one (ps_ret (pv 1)))),
    (ss_seq (ss_for (si_seq se_var) sg_name (ss_seq (ss_set (se_star2 (sa_cons (se_dat se_var) (sa_cons (se_dat se_var) (sa_cons (se_dat se_var) sa_nil)))))
      (ss_if (st_cmp (se_op ops_notN (se_call fnOf_len (sx_r se_var (sx_r se_var sx_nil))) se_non)) (ss_ret se_non) ss_next)))
      (ss_ret se_var))⟩
theorem ok_post_after (T : Tx K mg) : FnG P w K mg base 8 T.a_post_after T.d_post_after P_post_after (spF K 4 f_post_after) := by
  refine mk_def T.f_post_after sc_post_after rfl rfl (fun cdv hkd A outer s H E hgd hr => ?_)
  exact ⟨_, (pss_cons (ps_expr (pe_callG (ok_require_remaining T) hgd (hr.mono (by decide)) (by rfl) T.m_require_remaining T.f_require_remaining.kp T.b_require_remaining (pa_cons (pv 0) (pa_cons (pv 1) (pa_cons (pv 2) (pa_cons (pv 3) pa_nil))))))
      (pss_one (ps_ret (pe_eor (k_bm (K := K) (pe_bm PySem.F.plainAttrs_list PySem.F.slot_list_index PySem.F.type_list_index (k_mtindex (K := K)) (pe_callG (ok_after_departures T) hgd (hr.mono (by decide)) (by rfl) T.m_after_departures T.f_after_departures.kp T.b_after_departures (pa_cons (pv 0) (pa_cons (pv 1) (pa_cons (pv 2) pa_nil)))) (pa_cons (pv 3) pa_nil))) (pe_tindex (pe_callG (ok_after_departures T) hgd (hr.mono (by decide)) (by rfl) T.m_after_departures T.f_after_departures.kp T.b_after_departures (pa_cons (pv 0) (pa_cons (pv 1) (pa_cons (pv 2) pa_nil)))) (pa_cons (pv 3) pa_nil)))))),
    (ss_seq (ss_expr (se_call fnOf_len (sx_r se_var (sx_r se_var (sx_r se_var (sx_r se_var sx_nil))))))
      (ss_ret (se_index T.kt (se_call fnOf_len (sx_r se_var (sx_r se_var (sx_r se_var sx_nil)))) se_var)))⟩
theorem ok_l_orders_right (T : Tx K mg) : FnG P w K mg base 9 T.a_l_orders_right T.d_l_orders_right P_l_orders_right (spF K 5 f_l_orders_right) := by
  refine mk_def T.f_l_orders_right sc_l_orders_right rfl rfl (fun cdv hkd A outer s H E hgd hr => ?_)
  exact ⟨_, (pss_cons (ps_set (i := 5) sc_l_orders_right.nd rfl (by first | exact Or.inl rfl | exact Or.inr rfl) (pe_callG (ok_l_one_by_one T) hgd (hr.mono (by decide)) (by rfl) T.m_l_one_by_one T.f_l_one_by_one.kp T.b_l_one_by_one (pa_cons (pv 1) (pa_cons (pv 2) (pa_cons (pe_op (op_add' (K := K) rfl) (pv 3) (pv 4)) pa_nil)))))
      (pss_cons (ps_if (PW.pt (pw_or (pt_cmpR op_isN (pv 5) pe_non (nomark _)) (pw_or1 (pt_cmpR (k_ne (K := K) hr.units) (pe_callG (ok_l_one_by_one T) hgd (hr.mono (by decide)) (by rfl) T.m_l_one_by_one T.f_l_one_by_one.kp T.b_l_one_by_one (pa_cons (pv 1) (pa_cons (pv 2) (pa_cons (pe_op (op_add' (K := K) rfl) (pv 4) (pv 3)) pa_nil)))) (pv 5) (nomark _))))) (pss_one (ps_ret pe_bl)) pss_nil)
      (pss_cons (ps_if (pt_cmpR (k_ne (K := K) hr.units) (pe_callG (ok_l_one_by_one T) hgd (hr.mono (by decide)) (by rfl) T.m_l_one_by_one T.f_l_one_by_one.kp T.b_l_one_by_one (pa_cons (pv 1) (pa_cons (pv 2) (pa_cons (pe_callG (ok_l_shuffled T) hgd (hr.mono (by decide)) (by rfl) T.m_l_shuffled T.f_l_shuffled.kp T.b_l_shuffled (pa_cons (pv 0) (pa_cons (pe_op (op_add' (K := K) rfl) (pv 3) (pv 4)) pa_nil))) pa_nil)))) (pv 5) (nomark _)) (pss_one (ps_ret pe_bl)) pss_nil)
      (pss_cons (ps_setLc (i := 6) (own := [("_law_name", 8)]) rfl sc_l_orders_right.nd rfl rfl (sw_true rfl rfl rfl (by decide +kernel)) (k_pi2 (K := K) (pe_callG (ok_l_held T) hgd (hr.mono (by decide)) (by rfl) T.m_l_held T.f_l_held.kp T.b_l_held (pa_cons (pv 2) pa_nil))) (blkOk_by (N := N_l_orders_right) (sc := defScope s_l_orders_right) (by decide +kernel)) (fun _ _ _ _ _ => (pg_name (i := 8) sc_l_orders_right.nd rfl (by first | exact Or.inl rfl | exact Or.inr rfl))) (fun _ _ _ _ _ => (pts_one (pt_cmpR (k_notin (K := K)) (pv 8) (pe_op (op_add' (K := K) rfl) (pv 3) (pv 4)) (by rfl)))) (fun _ _ _ _ _ => (pv 8)))
      (pss_cons (ps_if (pt_cmpR (k_ne (K := K) hr.units) (pe_callG (ok_reduced T) hgd (hr.mono (by decide)) (by rfl) T.m_reduced T.f_reduced.kp T.b_reduced (pa_cons (pv 1) (pa_cons (pv 2) (pa_cons (pv 6) pa_nil)))) (pv 5) (nomark _)) (pss_one (ps_ret pe_bl)) pss_nil)
      (pss_cons (ps_set (i := 7) sc_l_orders_right.nd rfl (by first | exact Or.inl rfl | exact Or.inr rfl) (pe_callG (ok_reduced T) hgd (hr.mono (by decide)) (by rfl) T.m_reduced T.f_reduced.kp T.b_reduced (pa_cons (pv 1) (pa_cons (pv 2) (pa_cons (pe_op (op_add' (K := K) rfl) (pv 6) (pv 4)) pa_nil)))))
      (pss_one (ps_ret (pe_and (pe_cmpR (k_eq (K := K) hr.units) (pv 7) (pe_callG (ok_l_one_by_one T) hgd (hr.mono (by decide)) (by rfl) T.m_l_one_by_one T.f_l_one_by_one.kp T.b_l_one_by_one (pa_cons (pv 1) (pa_cons (pv 2) (pa_cons (pv 3) pa_nil)))) (nomark _)) (pe_one (pe_cmpR (k_eq (K := K) hr.units) (pe_callG (ok_reduced T) hgd (hr.mono (by decide)) (by rfl) T.m_reduced T.f_reduced.kp T.b_reduced (pa_cons (pv 1) (pa_cons (pv 7) (pa_cons (pv 6) pa_nil)))) (pv 5) (nomark _)))))))))))),
    (ss_seq (ss_set (se_call fnOf_len (sx_r se_var (sx_r se_var (sx_r (se_op ops_add se_var se_var) sx_nil)))))
      (ss_seq (ss_if (st_or (st_cmp (se_op ops_isN se_var se_non)) (st_cmp (se_op ops_ne (se_call fnOf_len (sx_r se_var (sx_r se_var (sx_r (se_op ops_add se_var se_var) sx_nil)))) se_var))) (ss_ret se_bl) ss_next)
      (ss_seq (ss_if (st_cmp (se_op ops_ne (se_call fnOf_len (sx_r se_var (sx_r se_var (sx_r (se_call fnOf_len (sx_m se_var (sx_r (se_op ops_add se_var se_var) sx_nil))) sx_nil)))) se_var)) (ss_ret se_bl) ss_next)
      (ss_seq (ss_set (se_lc (si_seq (se_call fnOf_len (sx_r se_var sx_nil))) sgc_name (by decide) (st_cmp (se_op (ops_in (neg := true)) se_var (se_op ops_add se_var se_var))) se_var))
      (ss_seq (ss_if (st_cmp (se_op ops_ne (se_call fnOf_len (sx_r se_var (sx_r se_var (sx_r se_var sx_nil)))) se_var)) (ss_ret se_bl) ss_next)
      (ss_seq (ss_set (se_call fnOf_len (sx_r se_var (sx_r se_var (sx_r (se_op ops_add se_var se_var) sx_nil)))))
      (ss_ret (se_and (se_op ops_eq se_var (se_call fnOf_len (sx_r se_var (sx_r se_var (sx_r se_var sx_nil))))) (se_op ops_eq (se_call fnOf_len (sx_r se_var (sx_r se_var (sx_r se_var sx_nil)))) se_var)))))))))⟩
theorem ok_l_positions_right (T : Tx K mg) : FnG P w K mg base 9 T.a_l_positions_right T.d_l_positions_right P_l_positions_right (spF K 3 f_l_positions_right) := by
  refine mk_def T.f_l_positions_right sc_l_positions_right rfl rfl (fun cdv hkd A outer s H E hgd hr => ?_)
  exact ⟨_, (pss_cons (ps_set (i := 3) sc_l_positions_right.nd rfl (by first | exact Or.inl rfl | exact Or.inr rfl) (pe_callG (ok_l_one_by_one T) hgd (hr.mono (by decide)) (by rfl) T.m_l_one_by_one T.f_l_one_by_one.kp T.b_l_one_by_one (pa_cons (pv 0) (pa_cons (pv 1) (pa_cons (pv 2) pa_nil)))))
      (pss_cons (ps_for PassesOwn.never rfl (k_pi2 (K := K) (pe_callG (ok_l_held T) hgd (hr.mono (by decide)) (by rfl) T.m_l_held T.f_l_held.kp T.b_l_held (pa_cons (pv 3) pa_nil))) (pg_name (i := 4) sc_l_positions_right.nd rfl (by first | exact Or.inl rfl | exact Or.inr rfl))
      (pss_cons (ps_par (i := 5) (j := 6) (by rfl) sc_l_positions_right.nd rfl rfl (by decide) rfl rfl (pa_cons (pe_callG (ok_post_of T) hgd (hr.mono (by decide)) (by rfl) T.m_post_of T.f_post_of.kp T.b_post_of (pa_cons (pv 0) (pa_cons (pv 1) (pa_cons (pv 4) pa_nil)))) (pa_cons (pe_callG (ok_post_of T) hgd (hr.mono (by decide)) (by rfl) T.m_post_of T.f_post_of.kp T.b_post_of (pa_cons (pv 0) (pa_cons (pv 3) (pa_cons (pv 4) pa_nil)))) pa_nil)) (by rfl))
      (pss_one (ps_if (PW.pt (pw_or (pt_cmpR (k_notin (K := K)) (pv 6) (pe_callG (ok_path_to T) hgd (hr.mono (by decide)) (by rfl) T.m_path_to T.f_path_to.kp T.b_path_to (pa_cons (pv 0) (pa_cons (pv 5) pa_nil))) (by rfl)) (pw_or1 (pt_cmpR (k_ne (K := K) hr.units) (pe_callG (ok_post_after T) hgd (hr.mono (by decide)) (by rfl) T.m_post_after T.f_post_after.kp T.b_post_after (pa_cons (pv 0) (pa_cons (pv 1) (pa_cons (pv 2) (pa_cons (pv 4) pa_nil))))) (pv 6) (nomark _))))) (pss_one (ps_ret pe_bl)) pss_nil))))
      (pss_cons (ps_for PassesOwn.never rfl (pi_range1 (by rfl) T.z_range (pa_cons (pe_callB (k_len (K := K)) (by rfl) T.z_len (by decide +kernel) (pa_cons (pv 0) pa_nil)) pa_nil)) (pg_name (i := 7) sc_l_positions_right.nd rfl (by first | exact Or.inl rfl | exact Or.inr rfl))
      (pss_cons (ps_set (i := 8) sc_l_positions_right.nd rfl (by first | exact Or.inl rfl | exact Or.inr rfl) (pe_callG (ok_posts_below T) hgd (hr.mono (by decide)) (by rfl) T.m_posts_below T.f_posts_below.kp T.b_posts_below (pa_cons (pv 0) (pa_cons (pv 7) pa_nil))))
      (pss_cons (ps_set (i := 9) sc_l_positions_right.nd rfl (by first | exact Or.inl rfl | exact Or.inr rfl) (pe_lc (own := [("_law_other", 12)]) rfl sc_l_positions_right.nd (k_pi2 (K := K) (pv 8)) (blkOk_by (N := N_l_positions_right) (sc := defScope s_l_positions_right) (by decide +kernel)) (fun _ _ _ _ _ => (pg_name (i := 12) sc_l_positions_right.nd rfl (by first | exact Or.inl rfl | exact Or.inr rfl))) (fun _ _ _ _ _ => (pts_one (PW.pt (pw_and (pt_cmpR op_notN (pe_ix (ixr_seq (K := K) rfl) (pv 1) (pv 12) (fun _ _ => rfl)) pe_non (nomark _)) (pw_and1 (pt_cmpR (k_notin (K := K)) (pe_ix (ixr_seq (K := K) rfl) (pv 1) (pv 12) (fun _ _ => rfl)) (pv 2) (by rfl))))))) (fun _ _ _ _ _ => (pe_ix (ixr_seq (K := K) rfl) (pv 1) (pv 12) (fun _ _ => rfl)))))
      (pss_cons (ps_set (i := 10) sc_l_positions_right.nd rfl (by first | exact Or.inl rfl | exact Or.inr rfl) (pe_lc (own := [("_law_other", 12)]) rfl sc_l_positions_right.nd (k_pi2 (K := K) (pv 8)) (blkOk_by (N := N_l_positions_right) (sc := defScope s_l_positions_right) (by decide +kernel)) (fun _ _ _ _ _ => (pg_name (i := 12) sc_l_positions_right.nd rfl (by first | exact Or.inl rfl | exact Or.inr rfl))) (fun _ _ _ _ _ => (pts_one (pt_cmpR op_notN (pe_ix (ixr_seq (K := K) rfl) (pv 3) (pv 12) (fun _ _ => rfl)) pe_non (nomark _)))) (fun _ _ _ _ _ => (pe_ix (ixr_seq (K := K) rfl) (pv 3) (pv 12) (fun _ _ => rfl)))))
      (pss_cons (ps_if (pt_cmpR (k_ne (K := K) hr.units) (pe_lc (own := [("_law_name", 4)]) rfl sc_l_positions_right.nd (k_pi2 (K := K) (pv 10)) (blkOk_by (N := N_l_positions_right) (sc := defScope s_l_positions_right) (by decide +kernel)) (fun _ _ _ _ _ => (pg_name (i := 4) sc_l_positions_right.nd rfl (by first | exact Or.inl rfl | exact Or.inr rfl))) (fun _ _ _ _ _ => (pts_one (pt_cmpR (k_notin (K := K)) (pv 4) (pv 9) (by rfl)))) (fun _ _ _ _ _ => (pv 4))) (pe_lst pa_nil) (nomark _)) (pss_one (ps_ret pe_bl)) pss_nil)
      (pss_cons (ps_setLc (i := 11) (own := [("_law_name", 4)]) rfl sc_l_positions_right.nd rfl rfl (sw_true rfl rfl rfl (by decide +kernel)) (k_pi2 (K := K) (pv 9)) (blkOk_by (N := N_l_positions_right) (sc := defScope s_l_positions_right) (by decide +kernel)) (fun _ _ _ _ _ => (pg_name (i := 4) sc_l_positions_right.nd rfl (by first | exact Or.inl rfl | exact Or.inr rfl))) (fun _ _ _ _ _ => (pts_one (pt_cmpR (k_notin (K := K)) (pv 4) (pv 10) (by rfl)))) (fun _ _ _ _ _ => (pv 4)))
      (pss_one (ps_if (PW.pt (pw_and (pt_cmpR (k_ne (K := K) hr.units) (pv 11) (pe_lst pa_nil) (nomark _)) (pw_and (pt_cmpR (k_ne (K := K) hr.units) (pv 10) (pe_lst pa_nil) (nomark _)) (pw_and1 (pt_cmpR op_gt (pe_callB (k_maxU (K := K) rfl) (by rfl) T.z_max (by decide +kernel) (pa_cons (pv 11) pa_nil)) (pe_callB (k_minU (K := K) rfl hr.units) (by rfl) T.z_min (by decide +kernel) (pa_cons (pv 10) pa_nil)) (nomark _)))))) (pss_one (ps_ret pe_bl)) pss_nil))))))))
      (pss_one (ps_ret pe_bl))))),
    (ss_seq (ss_set (se_call fnOf_len (sx_r se_var (sx_r se_var (sx_r se_var sx_nil)))))
      (ss_seq (ss_for (si_seq (se_call fnOf_len (sx_r se_var sx_nil))) sg_name (ss_seq (ss_par (sa_cons (se_dat (se_call fnOf_len (sx_r se_var (sx_r se_var (sx_r se_var sx_nil))))) (sa_cons (se_dat (se_call fnOf_len (sx_r se_var (sx_r se_var (sx_r se_var sx_nil))))) sa_nil)))
      (ss_if (st_or (st_cmp (se_op (ops_in (neg := true)) se_var (se_call fnOf_len (sx_r se_var (sx_r se_var sx_nil))))) (st_cmp (se_op ops_ne (se_call fnOf_len (sx_r se_var (sx_r se_var (sx_r se_var (sx_r se_var sx_nil))))) se_var))) (ss_ret se_bl) ss_next)))
      (ss_seq (ss_for (si_rng1 (se_cb cb_len (sa_cons (se_rd se_var) sa_nil))) sg_name (ss_seq (ss_set (se_call fnOf_len (sx_r se_var (sx_r se_var sx_nil))))
      (ss_seq (ss_set (se_lc (si_seq se_var) sgc_name (by decide) (st_and (st_cmp (se_op ops_notN (se_op ops_ix se_var se_var) se_non)) (st_cmp (se_op (ops_in (neg := true)) (se_op ops_ix se_var se_var) se_var))) (se_op ops_ix se_var se_var)))
      (ss_seq (ss_set (se_lc (si_seq se_var) sgc_name (by decide) (st_cmp (se_op ops_notN (se_op ops_ix se_var se_var) se_non)) (se_op ops_ix se_var se_var)))
      (ss_seq (ss_if (st_cmp (se_op ops_ne (se_lc (si_seq se_var) sgc_name (by decide) (st_cmp (se_op (ops_in (neg := true)) se_var se_var)) se_var) (se_lst sa_nil))) (ss_ret se_bl) ss_next)
      (ss_seq (ss_set (se_lc (si_seq se_var) sgc_name (by decide) (st_cmp (se_op (ops_in (neg := true)) se_var se_var)) se_var))
      (ss_if (st_and (st_cmp (se_op ops_ne se_var (se_lst sa_nil))) (st_and (st_cmp (se_op ops_ne se_var (se_lst sa_nil))) (st_cmp (se_op (ops_cmpI fun i j => decide (j < i)) (se_cb cb_maxU (sa_cons (se_rd se_var) sa_nil)) (se_cb cb_minU (sa_cons (se_rd se_var) sa_nil)))))) (ss_ret se_bl) ss_next)))))))
      (ss_ret se_bl))))⟩
theorem ok_law (T : Tx K mg) : FnG P w K mg base 10 T.a_law T.d_law P_law (spF K 1 f_law_6) := by
  refine mk_def T.f_law sc_law rfl rfl (fun cdv hkd A outer s H E hgd hr => ?_)
  exact ⟨_, (pss_cons (ps_for PassesOwn.never rfl (pi_range1 (by rfl) T.z_range (pa_cons pe_int pa_nil)) (pg_name (i := 1) sc_law.nd rfl (by first | exact Or.inl rfl | exact Or.inr rfl))
      (pss_cons (ps_set (i := 2) sc_law.nd rfl (by first | exact Or.inl rfl | exact Or.inr rfl) (pe_callG (ok_l_generator T) hgd (hr.mono (by decide)) (by rfl) T.m_l_generator T.f_l_generator.kp T.b_l_generator (pa_cons (pv 0) (pa_cons (pv 1) pa_nil))))
      (pss_cons (ps_set (i := 3) sc_law.nd rfl (by first | exact Or.inl rfl | exact Or.inr rfl) (pe_op (op_add' (K := K) rfl) (pe_callG (ok_l_random_chart T) hgd (hr.mono (by decide)) (by rfl) T.m_l_random_chart T.f_l_random_chart.kp T.b_l_random_chart (pa_cons (pv 2) (pa_cons pe_int pa_nil))) (pe_tupN (pa_cons pe_int pa_nil))))
      (pss_one (ps_for PassesOwn.never rfl (pi_range1 (by rfl) T.z_range (pa_cons pe_int pa_nil)) (pg_name (i := 4) sc_law.nd rfl (by first | exact Or.inl rfl | exact Or.inr rfl))
      (pss_cons (ps_set (i := 5) sc_law.nd rfl (by first | exact Or.inl rfl | exact Or.inr rfl) (pe_callG (ok_l_random_rows T) hgd (hr.mono (by decide)) (by rfl) T.m_l_random_rows T.f_l_random_rows.kp T.b_l_random_rows (pa_cons (pv 2) (pa_cons (pv 3) pa_nil))))
      (pss_cons (ps_set (i := 6) sc_law.nd rfl (by first | exact Or.inl rfl | exact Or.inr rfl) (pe_callG (ok_l_some T) hgd (hr.mono (by decide)) (by rfl) T.m_l_some T.f_l_some.kp T.b_l_some (pa_cons (pv 2) (pa_cons (pe_callG (ok_l_held T) hgd (hr.mono (by decide)) (by rfl) T.m_l_held T.f_l_held.kp T.b_l_held (pa_cons (pv 5) pa_nil)) pa_nil))))
      (pss_cons (ps_set (i := 7) sc_law.nd rfl (by first | exact Or.inl rfl | exact Or.inr rfl) (pe_callG (ok_l_random T) hgd (hr.mono (by decide)) (by rfl) T.m_l_random T.f_l_random.kp T.b_l_random (pa_cons (pv 2) (pa_cons (pe_op (op_add' (K := K) rfl) (pe_callB (k_len (K := K)) (by rfl) T.z_len (by decide +kernel) (pa_cons (pv 6) pa_nil)) pe_int) pa_nil))))
      (pss_cons (ps_if (pt_not (pt_val (pe_callG (ok_l_orders_right T) hgd (hr.mono (by decide)) (by rfl) T.m_l_orders_right T.f_l_orders_right.kp T.b_l_orders_right (pa_cons (pv 2) (pa_cons (pv 3) (pa_cons (pv 5) (pa_cons (pe_slice (k_slU (K := K)) (pv 6) po_none (po_some (pv 7))) (pa_cons (pe_slice (k_slU (K := K)) (pv 6) (po_some (pv 7)) po_none) pa_nil)))))))) (pss_one (ps_ret pe_bl)) pss_nil)
      (pss_one (ps_if (pt_not (pt_val (pe_callG (ok_l_positions_right T) hgd (hr.mono (by decide)) (by rfl) T.m_l_positions_right T.f_l_positions_right.kp T.b_l_positions_right (pa_cons (pv 3) (pa_cons (pv 5) (pa_cons (pv 6) pa_nil)))))) (pss_one (ps_ret pe_bl)) pss_nil)))))))))))
      (pss_one (ps_ret pe_bl))),
    (ss_seq (ss_for (si_rng1 se_int) sg_name (ss_seq (ss_set (se_call fnOf_len (sx_r se_var (sx_r se_var sx_nil))))
      (ss_seq (ss_set (se_op ops_add (se_call fnOf_len (sx_m se_var (sx_r se_int sx_nil))) (se_tup (sa_cons (se_dat se_int) sa_nil))))
      (ss_for (si_rng1 se_int) sg_name (ss_seq (ss_set (se_call fnOf_len (sx_m se_var (sx_r se_var sx_nil))))
      (ss_seq (ss_set (se_call fnOf_len (sx_m se_var (sx_r (se_call fnOf_len (sx_r se_var sx_nil)) sx_nil))))
      (ss_seq (ss_set (se_call fnOf_len (sx_m se_var (sx_r (se_op ops_add (se_cb cb_len (sa_cons (se_rd se_var) sa_nil)) se_int) sx_nil))))
      (ss_seq (ss_if (st_not (st_val (se_call fnOf_len (sx_m se_var (sx_r se_var (sx_r se_var (sx_r (se_sl se_var so_no (so_some se_var)) (sx_r (se_sl se_var (so_some se_var) so_no) sx_nil)))))))) (ss_ret se_bl) ss_next)
      (ss_if (st_not (st_val (se_call fnOf_len (sx_r se_var (sx_r se_var (sx_r se_var sx_nil)))))) (ss_ret se_bl) ss_next)))))))))
      (ss_ret se_bl))⟩
end
theorem ok_end {P : Program} {w : World} {K : PySem.W.Frag} {mg : Str → Option Value} {base : Heap} (T : Tx K mg) : FnG P w K mg base 10 T.a_law T.d_law P_law (spLaw K) := (ok_law T).imp fun vs H Q E h => law_sp (fun _ => law_true) h
theorem all_mk {l : PySem.W.OpenLaw} {w : World} {K : PySem.W.Frag} {h : Heap} {mg : Str → Option Value} {fa : Addr} (X : K.In h) (G : h.Ns mainGlobals mg) (hfa : mg "law" = some (.ref fa))
    {od_l_cell an_l_cell : Option Addr} {sl_l_cell : Array (Option Value)} {oc_l_cell kV_l_cell dc_l_cell pm_l_cell cd_l_cell ct_l_cell : Value} {f_l_cell : Addr}
    {od_l_hash an_l_hash : Option Addr} {sl_l_hash : Array (Option Value)} {oc_l_hash kV_l_hash dc_l_hash pm_l_hash cd_l_hash ct_l_hash : Value} {f_l_hash : Addr}
    {od_l_open an_l_open : Option Addr} {sl_l_open : Array (Option Value)} {oc_l_open kV_l_open dc_l_open pm_l_open cd_l_open ct_l_open : Value} {f_l_open : Addr}
    {od_l_held an_l_held : Option Addr} {sl_l_held : Array (Option Value)} {oc_l_held kV_l_held dc_l_held pm_l_held cd_l_held ct_l_held : Value} {f_l_held : Addr}
    {od_is_whole an_is_whole : Option Addr} {sl_is_whole : Array (Option Value)} {oc_is_whole kV_is_whole dc_is_whole pm_is_whole cd_is_whole ct_is_whole : Value} {f_is_whole : Addr}
    {od_may_stand_below an_may_stand_below : Option Addr} {sl_may_stand_below : Array (Option Value)} {oc_may_stand_below kV_may_stand_below dc_may_stand_below pm_may_stand_below cd_may_stand_below ct_may_stand_below : Value} {f_may_stand_below : Addr}
    {od_posts_under an_posts_under : Option Addr} {sl_posts_under : Array (Option Value)} {oc_posts_under kV_posts_under dc_posts_under pm_posts_under cd_posts_under ct_posts_under : Value} {f_posts_under : Addr}
    {od_next_in_line an_next_in_line : Option Addr} {sl_next_in_line : Array (Option Value)} {oc_next_in_line kV_next_in_line dc_next_in_line pm_next_in_line cd_next_in_line ct_next_in_line : Value} {f_next_in_line : Addr}
    {od_people_of an_people_of : Option Addr} {sl_people_of : Array (Option Value)} {oc_people_of kV_people_of dc_people_of pm_people_of cd_people_of ct_people_of : Value} {f_people_of : Addr}
    {od_place_of an_place_of : Option Addr} {sl_place_of : Array (Option Value)} {oc_place_of kV_place_of dc_place_of pm_place_of cd_place_of ct_place_of : Value} {f_place_of : Addr}
    {od_way_down an_way_down : Option Addr} {sl_way_down : Array (Option Value)} {oc_way_down kV_way_down dc_way_down pm_way_down cd_way_down ct_way_down : Value} {f_way_down : Addr}
    {od_l_generator an_l_generator : Option Addr} {sl_l_generator : Array (Option Value)} {oc_l_generator kV_l_generator dc_l_generator pm_l_generator cd_l_generator ct_l_generator : Value} {f_l_generator : Addr}
    {od_l_random an_l_random : Option Addr} {sl_l_random : Array (Option Value)} {oc_l_random kV_l_random dc_l_random pm_l_random cd_l_random ct_l_random : Value} {f_l_random : Addr}
    {od_is_post an_is_post : Option Addr} {sl_is_post : Array (Option Value)} {oc_is_post kV_is_post dc_is_post pm_is_post cd_is_post ct_is_post : Value} {f_is_post : Addr}
    {od_is_amount an_is_amount : Option Addr} {sl_is_amount : Array (Option Value)} {oc_is_amount kV_is_amount dc_is_amount pm_is_amount cd_is_amount ct_is_amount : Value} {f_is_amount : Addr}
    {od_depart an_depart : Option Addr} {sl_depart : Array (Option Value)} {oc_depart kV_depart dc_depart pm_depart cd_depart ct_depart : Value} {f_depart : Addr}
    {od_l_random_chart an_l_random_chart : Option Addr} {sl_l_random_chart : Array (Option Value)} {oc_l_random_chart kV_l_random_chart dc_l_random_chart pm_l_random_chart cd_l_random_chart ct_l_random_chart : Value} {f_l_random_chart : Addr}
    {od_l_filled an_l_filled : Option Addr} {sl_l_filled : Array (Option Value)} {oc_l_filled kV_l_filled dc_l_filled pm_l_filled cd_l_filled ct_l_filled : Value} {f_l_filled : Addr}
    {od_l_names an_l_names : Option Addr} {sl_l_names : Array (Option Value)} {oc_l_names kV_l_names dc_l_names pm_l_names cd_l_names ct_l_names : Value} {f_l_names : Addr}
    {od_l_shuffled an_l_shuffled : Option Addr} {sl_l_shuffled : Array (Option Value)} {oc_l_shuffled kV_l_shuffled dc_l_shuffled pm_l_shuffled cd_l_shuffled ct_l_shuffled : Value} {f_l_shuffled : Addr}
    {od_check_chart an_check_chart : Option Addr} {sl_check_chart : Array (Option Value)} {oc_check_chart kV_check_chart dc_check_chart pm_check_chart cd_check_chart ct_check_chart : Value} {f_check_chart : Addr}
    {od_is_person an_is_person : Option Addr} {sl_is_person : Array (Option Value)} {oc_is_person kV_is_person dc_is_person pm_is_person cd_is_person ct_is_person : Value} {f_is_person : Addr}
    {od_after_departures an_after_departures : Option Addr} {sl_after_departures : Array (Option Value)} {oc_after_departures kV_after_departures dc_after_departures pm_after_departures cd_after_departures ct_after_departures : Value} {f_after_departures : Addr}
    {od_require_post an_require_post : Option Addr} {sl_require_post : Array (Option Value)} {oc_require_post kV_require_post dc_require_post pm_require_post cd_require_post ct_require_post : Value} {f_require_post : Addr}
    {od_l_random_rows an_l_random_rows : Option Addr} {sl_l_random_rows : Array (Option Value)} {oc_l_random_rows kV_l_random_rows dc_l_random_rows pm_l_random_rows cd_l_random_rows ct_l_random_rows : Value} {f_l_random_rows : Addr}
    {od_l_some an_l_some : Option Addr} {sl_l_some : Array (Option Value)} {oc_l_some kV_l_some dc_l_some pm_l_some cd_l_some ct_l_some : Value} {f_l_some : Addr}
    {od_require_chart an_require_chart : Option Addr} {sl_require_chart : Array (Option Value)} {oc_require_chart kV_require_chart dc_require_chart pm_require_chart cd_require_chart ct_require_chart : Value} {f_require_chart : Addr}
    {od_is_holder an_is_holder : Option Addr} {sl_is_holder : Array (Option Value)} {oc_is_holder kV_is_holder dc_is_holder pm_is_holder cd_is_holder ct_is_holder : Value} {f_is_holder : Addr}
    {od_check_arrangement an_check_arrangement : Option Addr} {sl_check_arrangement : Array (Option Value)} {oc_check_arrangement kV_check_arrangement dc_check_arrangement pm_check_arrangement cd_check_arrangement ct_check_arrangement : Value} {f_check_arrangement : Addr}
    {od_first_misfit an_first_misfit : Option Addr} {sl_first_misfit : Array (Option Value)} {oc_first_misfit kV_first_misfit dc_first_misfit pm_first_misfit cd_first_misfit ct_first_misfit : Value} {f_first_misfit : Addr}
    {od_posts_below an_posts_below : Option Addr} {sl_posts_below : Array (Option Value)} {oc_posts_below kV_posts_below dc_posts_below pm_posts_below cd_posts_below ct_posts_below : Value} {f_posts_below : Addr}
    {od_path_to an_path_to : Option Addr} {sl_path_to : Array (Option Value)} {oc_path_to kV_path_to dc_path_to pm_path_to cd_path_to ct_path_to : Value} {f_path_to : Addr}
    {od_require_arrangement an_require_arrangement : Option Addr} {sl_require_arrangement : Array (Option Value)} {oc_require_arrangement kV_require_arrangement dc_require_arrangement pm_require_arrangement cd_require_arrangement ct_require_arrangement : Value} {f_require_arrangement : Addr}
    {od_require_leavers an_require_leavers : Option Addr} {sl_require_leavers : Array (Option Value)} {oc_require_leavers kV_require_leavers dc_require_leavers pm_require_leavers cd_require_leavers ct_require_leavers : Value} {f_require_leavers : Addr}
    {od_require_people an_require_people : Option Addr} {sl_require_people : Array (Option Value)} {oc_require_people kV_require_people dc_require_people pm_require_people cd_require_people ct_require_people : Value} {f_require_people : Addr}
    {od_leave an_leave : Option Addr} {sl_leave : Array (Option Value)} {oc_leave kV_leave dc_leave pm_leave cd_leave ct_leave : Value} {f_leave : Addr}
    {od_reduced an_reduced : Option Addr} {sl_reduced : Array (Option Value)} {oc_reduced kV_reduced dc_reduced pm_reduced cd_reduced ct_reduced : Value} {f_reduced : Addr}
    {od_post_of an_post_of : Option Addr} {sl_post_of : Array (Option Value)} {oc_post_of kV_post_of dc_post_of pm_post_of cd_post_of ct_post_of : Value} {f_post_of : Addr}
    {od_require_remaining an_require_remaining : Option Addr} {sl_require_remaining : Array (Option Value)} {oc_require_remaining kV_require_remaining dc_require_remaining pm_require_remaining cd_require_remaining ct_require_remaining : Value} {f_require_remaining : Addr}
    {od_l_one_by_one an_l_one_by_one : Option Addr} {sl_l_one_by_one : Array (Option Value)} {oc_l_one_by_one kV_l_one_by_one dc_l_one_by_one pm_l_one_by_one cd_l_one_by_one ct_l_one_by_one : Value} {f_l_one_by_one : Addr}
    {od_post_after an_post_after : Option Addr} {sl_post_after : Array (Option Value)} {oc_post_after kV_post_after dc_post_after pm_post_after cd_post_after ct_post_after : Value} {f_post_after : Addr}
    {od_l_orders_right an_l_orders_right : Option Addr} {sl_l_orders_right : Array (Option Value)} {oc_l_orders_right kV_l_orders_right dc_l_orders_right pm_l_orders_right cd_l_orders_right ct_l_orders_right : Value} {f_l_orders_right : Addr}
    {od_l_positions_right an_l_positions_right : Option Addr} {sl_l_positions_right : Array (Option Value)} {oc_l_positions_right kV_l_positions_right dc_l_positions_right pm_l_positions_right cd_l_positions_right ct_l_positions_right : Value} {f_l_positions_right : Addr}
    {od_law an_law : Option Addr} {sl_law : Array (Option Value)} {oc_law kV_law dc_law pm_law cd_law ct_law : Value} {f_law : Addr}
    (a_l_cell : PySem.W.nsIn K mainGlobals "_law_cell" = some (some (.ref f_l_cell)))
    (l_l_cell : K.lookup f_l_cell = some ⟨oc_l_cell, od_l_cell, .func (PySem.W.fnOf "_law_cell" "_law_cell" (defArgs s_l_cell) (defBody s_l_cell) (defScope s_l_cell) .none kV_l_cell dc_l_cell pm_l_cell an_l_cell cd_l_cell ct_l_cell), sl_l_cell⟩)
    (c_l_cell : PySem.W.codeIn K cd_l_cell "_law_cell" = true)
    (k_l_cell : PySem.W.keepIn K (.ref f_l_cell) = true)
    (a_l_hash : PySem.W.nsIn K mainGlobals "_law_hash" = some (some (.ref f_l_hash)))
    (l_l_hash : K.lookup f_l_hash = some ⟨oc_l_hash, od_l_hash, .func (PySem.W.fnOf "_law_hash" "_law_hash" (defArgs s_l_hash) (defBody s_l_hash) (defScope s_l_hash) .none kV_l_hash dc_l_hash pm_l_hash an_l_hash cd_l_hash ct_l_hash), sl_l_hash⟩)
    (c_l_hash : PySem.W.codeIn K cd_l_hash "_law_hash" = true)
    (k_l_hash : PySem.W.keepIn K (.ref f_l_hash) = true)
    (a_l_open : PySem.W.nsIn K mainGlobals "_law_open" = some (some (.ref f_l_open)))
    (l_l_open : K.lookup f_l_open = some ⟨oc_l_open, od_l_open, .func (PySem.W.fnOf "_law_open" "_law_open" (defArgs s_l_open) (defBody s_l_open) (defScope s_l_open) .none kV_l_open dc_l_open pm_l_open an_l_open cd_l_open ct_l_open), sl_l_open⟩)
    (c_l_open : PySem.W.codeIn K cd_l_open "_law_open" = true)
    (k_l_open : PySem.W.keepIn K (.ref f_l_open) = true)
    (a_l_held : PySem.W.nsIn K mainGlobals "_law_held" = some (some (.ref f_l_held)))
    (l_l_held : K.lookup f_l_held = some ⟨oc_l_held, od_l_held, .func (PySem.W.fnOf "_law_held" "_law_held" (defArgs s_l_held) (defBody s_l_held) (defScope s_l_held) .none kV_l_held dc_l_held pm_l_held an_l_held cd_l_held ct_l_held), sl_l_held⟩)
    (c_l_held : PySem.W.codeIn K cd_l_held "_law_held" = true)
    (k_l_held : PySem.W.keepIn K (.ref f_l_held) = true)
    (a_is_whole : PySem.W.nsIn K mainGlobals "is_whole" = some (some (.ref f_is_whole)))
    (l_is_whole : K.lookup f_is_whole = some ⟨oc_is_whole, od_is_whole, .func (PySem.W.fnOf "is_whole" "is_whole" (defArgs s_is_whole) (defBody s_is_whole) (defScope s_is_whole) .none kV_is_whole dc_is_whole pm_is_whole an_is_whole cd_is_whole ct_is_whole), sl_is_whole⟩)
    (c_is_whole : PySem.W.codeIn K cd_is_whole "is_whole" = true)
    (k_is_whole : PySem.W.keepIn K (.ref f_is_whole) = true)
    (a_may_stand_below : PySem.W.nsIn K mainGlobals "may_stand_below" = some (some (.ref f_may_stand_below)))
    (l_may_stand_below : K.lookup f_may_stand_below = some ⟨oc_may_stand_below, od_may_stand_below, .func (PySem.W.fnOf "may_stand_below" "may_stand_below" (defArgs s_may_stand_below) (defBody s_may_stand_below) (defScope s_may_stand_below) .none kV_may_stand_below dc_may_stand_below pm_may_stand_below an_may_stand_below cd_may_stand_below ct_may_stand_below), sl_may_stand_below⟩)
    (c_may_stand_below : PySem.W.codeIn K cd_may_stand_below "may_stand_below" = true)
    (k_may_stand_below : PySem.W.keepIn K (.ref f_may_stand_below) = true)
    (a_posts_under : PySem.W.nsIn K mainGlobals "posts_under" = some (some (.ref f_posts_under)))
    (l_posts_under : K.lookup f_posts_under = some ⟨oc_posts_under, od_posts_under, .func (PySem.W.fnOf "posts_under" "posts_under" (defArgs s_posts_under) (defBody s_posts_under) (defScope s_posts_under) .none kV_posts_under dc_posts_under pm_posts_under an_posts_under cd_posts_under ct_posts_under), sl_posts_under⟩)
    (c_posts_under : PySem.W.codeIn K cd_posts_under "posts_under" = true)
    (k_posts_under : PySem.W.keepIn K (.ref f_posts_under) = true)
    (a_next_in_line : PySem.W.nsIn K mainGlobals "next_in_line" = some (some (.ref f_next_in_line)))
    (l_next_in_line : K.lookup f_next_in_line = some ⟨oc_next_in_line, od_next_in_line, .func (PySem.W.fnOf "next_in_line" "next_in_line" (defArgs s_next_in_line) (defBody s_next_in_line) (defScope s_next_in_line) .none kV_next_in_line dc_next_in_line pm_next_in_line an_next_in_line cd_next_in_line ct_next_in_line), sl_next_in_line⟩)
    (c_next_in_line : PySem.W.codeIn K cd_next_in_line "next_in_line" = true)
    (k_next_in_line : PySem.W.keepIn K (.ref f_next_in_line) = true)
    (a_people_of : PySem.W.nsIn K mainGlobals "people_of" = some (some (.ref f_people_of)))
    (l_people_of : K.lookup f_people_of = some ⟨oc_people_of, od_people_of, .func (PySem.W.fnOf "people_of" "people_of" (defArgs s_people_of) (defBody s_people_of) (defScope s_people_of) .none kV_people_of dc_people_of pm_people_of an_people_of cd_people_of ct_people_of), sl_people_of⟩)
    (c_people_of : PySem.W.codeIn K cd_people_of "people_of" = true)
    (k_people_of : PySem.W.keepIn K (.ref f_people_of) = true)
    (a_place_of : PySem.W.nsIn K mainGlobals "place_of" = some (some (.ref f_place_of)))
    (l_place_of : K.lookup f_place_of = some ⟨oc_place_of, od_place_of, .func (PySem.W.fnOf "place_of" "place_of" (defArgs s_place_of) (defBody s_place_of) (defScope s_place_of) .none kV_place_of dc_place_of pm_place_of an_place_of cd_place_of ct_place_of), sl_place_of⟩)
    (c_place_of : PySem.W.codeIn K cd_place_of "place_of" = true)
    (k_place_of : PySem.W.keepIn K (.ref f_place_of) = true)
    (a_way_down : PySem.W.nsIn K mainGlobals "way_down" = some (some (.ref f_way_down)))
    (l_way_down : K.lookup f_way_down = some ⟨oc_way_down, od_way_down, .func (PySem.W.fnOf "way_down" "way_down" (defArgs s_way_down) (defBody s_way_down) (defScope s_way_down) .none kV_way_down dc_way_down pm_way_down an_way_down cd_way_down ct_way_down), sl_way_down⟩)
    (c_way_down : PySem.W.codeIn K cd_way_down "way_down" = true)
    (k_way_down : PySem.W.keepIn K (.ref f_way_down) = true)
    (a_l_generator : PySem.W.nsIn K mainGlobals "_law_generator" = some (some (.ref f_l_generator)))
    (l_l_generator : K.lookup f_l_generator = some ⟨oc_l_generator, od_l_generator, .func (PySem.W.fnOf "_law_generator" "_law_generator" (defArgs s_l_generator) (defBody s_l_generator) (defScope s_l_generator) .none kV_l_generator dc_l_generator pm_l_generator an_l_generator cd_l_generator ct_l_generator), sl_l_generator⟩)
    (c_l_generator : PySem.W.codeIn K cd_l_generator "_law_generator" = true)
    (k_l_generator : PySem.W.keepIn K (.ref f_l_generator) = true)
    (a_l_random : PySem.W.nsIn K mainGlobals "_law_random" = some (some (.ref f_l_random)))
    (l_l_random : K.lookup f_l_random = some ⟨oc_l_random, od_l_random, .func (PySem.W.fnOf "_law_random" "_law_random" (defArgs s_l_random) (defBody s_l_random) (defScope s_l_random) .none kV_l_random dc_l_random pm_l_random an_l_random cd_l_random ct_l_random), sl_l_random⟩)
    (c_l_random : PySem.W.codeIn K cd_l_random "_law_random" = true)
    (k_l_random : PySem.W.keepIn K (.ref f_l_random) = true)
    (a_is_post : PySem.W.nsIn K mainGlobals "is_post" = some (some (.ref f_is_post)))
    (l_is_post : K.lookup f_is_post = some ⟨oc_is_post, od_is_post, .func (PySem.W.fnOf "is_post" "is_post" (defArgs s_is_post) (defBody s_is_post) (defScope s_is_post) .none kV_is_post dc_is_post pm_is_post an_is_post cd_is_post ct_is_post), sl_is_post⟩)
    (c_is_post : PySem.W.codeIn K cd_is_post "is_post" = true)
    (k_is_post : PySem.W.keepIn K (.ref f_is_post) = true)
    (a_is_amount : PySem.W.nsIn K mainGlobals "is_amount" = some (some (.ref f_is_amount)))
    (l_is_amount : K.lookup f_is_amount = some ⟨oc_is_amount, od_is_amount, .func (PySem.W.fnOf "is_amount" "is_amount" (defArgs s_is_amount) (defBody s_is_amount) (defScope s_is_amount) .none kV_is_amount dc_is_amount pm_is_amount an_is_amount cd_is_amount ct_is_amount), sl_is_amount⟩)
    (c_is_amount : PySem.W.codeIn K cd_is_amount "is_amount" = true)
    (k_is_amount : PySem.W.keepIn K (.ref f_is_amount) = true)
    (a_depart : PySem.W.nsIn K mainGlobals "depart" = some (some (.ref f_depart)))
    (l_depart : K.lookup f_depart = some ⟨oc_depart, od_depart, .func (PySem.W.fnOf "depart" "depart" (defArgs s_depart) (defBody s_depart) (defScope s_depart) .none kV_depart dc_depart pm_depart an_depart cd_depart ct_depart), sl_depart⟩)
    (c_depart : PySem.W.codeIn K cd_depart "depart" = true)
    (k_depart : PySem.W.keepIn K (.ref f_depart) = true)
    (a_l_random_chart : PySem.W.nsIn K mainGlobals "_law_random_chart" = some (some (.ref f_l_random_chart)))
    (l_l_random_chart : K.lookup f_l_random_chart = some ⟨oc_l_random_chart, od_l_random_chart, .func (PySem.W.fnOf "_law_random_chart" "_law_random_chart" (defArgs s_l_random_chart) (defBody s_l_random_chart) (defScope s_l_random_chart) .none kV_l_random_chart dc_l_random_chart pm_l_random_chart an_l_random_chart cd_l_random_chart ct_l_random_chart), sl_l_random_chart⟩)
    (c_l_random_chart : PySem.W.codeIn K cd_l_random_chart "_law_random_chart" = true)
    (k_l_random_chart : PySem.W.keepIn K (.ref f_l_random_chart) = true)
    (a_l_filled : PySem.W.nsIn K mainGlobals "_law_filled" = some (some (.ref f_l_filled)))
    (l_l_filled : K.lookup f_l_filled = some ⟨oc_l_filled, od_l_filled, .func (PySem.W.fnOf "_law_filled" "_law_filled" (defArgs s_l_filled) (defBody s_l_filled) (defScope s_l_filled) .none kV_l_filled dc_l_filled pm_l_filled an_l_filled cd_l_filled ct_l_filled), sl_l_filled⟩)
    (c_l_filled : PySem.W.codeIn K cd_l_filled "_law_filled" = true)
    (k_l_filled : PySem.W.keepIn K (.ref f_l_filled) = true)
    (a_l_names : PySem.W.nsIn K mainGlobals "_law_names" = some (some (.ref f_l_names)))
    (l_l_names : K.lookup f_l_names = some ⟨oc_l_names, od_l_names, .func (PySem.W.fnOf "_law_names" "_law_names" (defArgs s_l_names) (defBody s_l_names) (defScope s_l_names) .none kV_l_names dc_l_names pm_l_names an_l_names cd_l_names ct_l_names), sl_l_names⟩)
    (c_l_names : PySem.W.codeIn K cd_l_names "_law_names" = true)
    (k_l_names : PySem.W.keepIn K (.ref f_l_names) = true)
    (a_l_shuffled : PySem.W.nsIn K mainGlobals "_law_shuffled" = some (some (.ref f_l_shuffled)))
    (l_l_shuffled : K.lookup f_l_shuffled = some ⟨oc_l_shuffled, od_l_shuffled, .func (PySem.W.fnOf "_law_shuffled" "_law_shuffled" (defArgs s_l_shuffled) (defBody s_l_shuffled) (defScope s_l_shuffled) .none kV_l_shuffled dc_l_shuffled pm_l_shuffled an_l_shuffled cd_l_shuffled ct_l_shuffled), sl_l_shuffled⟩)
    (c_l_shuffled : PySem.W.codeIn K cd_l_shuffled "_law_shuffled" = true)
    (k_l_shuffled : PySem.W.keepIn K (.ref f_l_shuffled) = true)
    (a_check_chart : PySem.W.nsIn K mainGlobals "check_chart" = some (some (.ref f_check_chart)))
    (l_check_chart : K.lookup f_check_chart = some ⟨oc_check_chart, od_check_chart, .func (PySem.W.fnOf "check_chart" "check_chart" (defArgs s_check_chart) (defBody s_check_chart) (defScope s_check_chart) .none kV_check_chart dc_check_chart pm_check_chart an_check_chart cd_check_chart ct_check_chart), sl_check_chart⟩)
    (c_check_chart : PySem.W.codeIn K cd_check_chart "check_chart" = true)
    (k_check_chart : PySem.W.keepIn K (.ref f_check_chart) = true)
    (a_is_person : PySem.W.nsIn K mainGlobals "is_person" = some (some (.ref f_is_person)))
    (l_is_person : K.lookup f_is_person = some ⟨oc_is_person, od_is_person, .func (PySem.W.fnOf "is_person" "is_person" (defArgs s_is_person) (defBody s_is_person) (defScope s_is_person) .none kV_is_person dc_is_person pm_is_person an_is_person cd_is_person ct_is_person), sl_is_person⟩)
    (c_is_person : PySem.W.codeIn K cd_is_person "is_person" = true)
    (k_is_person : PySem.W.keepIn K (.ref f_is_person) = true)
    (a_after_departures : PySem.W.nsIn K mainGlobals "after_departures" = some (some (.ref f_after_departures)))
    (l_after_departures : K.lookup f_after_departures = some ⟨oc_after_departures, od_after_departures, .func (PySem.W.fnOf "after_departures" "after_departures" (defArgs s_after_departures) (defBody s_after_departures) (defScope s_after_departures) .none kV_after_departures dc_after_departures pm_after_departures an_after_departures cd_after_departures ct_after_departures), sl_after_departures⟩)
    (c_after_departures : PySem.W.codeIn K cd_after_departures "after_departures" = true)
    (k_after_departures : PySem.W.keepIn K (.ref f_after_departures) = true)
    (a_require_post : PySem.W.nsIn K mainGlobals "require_post" = some (some (.ref f_require_post)))
    (l_require_post : K.lookup f_require_post = some ⟨oc_require_post, od_require_post, .func (PySem.W.fnOf "require_post" "require_post" (defArgs s_require_post) (defBody s_require_post) (defScope s_require_post) .none kV_require_post dc_require_post pm_require_post an_require_post cd_require_post ct_require_post), sl_require_post⟩)
    (c_require_post : PySem.W.codeIn K cd_require_post "require_post" = true)
    (k_require_post : PySem.W.keepIn K (.ref f_require_post) = true)
    (a_l_random_rows : PySem.W.nsIn K mainGlobals "_law_random_rows" = some (some (.ref f_l_random_rows)))
    (l_l_random_rows : K.lookup f_l_random_rows = some ⟨oc_l_random_rows, od_l_random_rows, .func (PySem.W.fnOf "_law_random_rows" "_law_random_rows" (defArgs s_l_random_rows) (defBody s_l_random_rows) (defScope s_l_random_rows) .none kV_l_random_rows dc_l_random_rows pm_l_random_rows an_l_random_rows cd_l_random_rows ct_l_random_rows), sl_l_random_rows⟩)
    (c_l_random_rows : PySem.W.codeIn K cd_l_random_rows "_law_random_rows" = true)
    (k_l_random_rows : PySem.W.keepIn K (.ref f_l_random_rows) = true)
    (a_l_some : PySem.W.nsIn K mainGlobals "_law_some" = some (some (.ref f_l_some)))
    (l_l_some : K.lookup f_l_some = some ⟨oc_l_some, od_l_some, .func (PySem.W.fnOf "_law_some" "_law_some" (defArgs s_l_some) (defBody s_l_some) (defScope s_l_some) .none kV_l_some dc_l_some pm_l_some an_l_some cd_l_some ct_l_some), sl_l_some⟩)
    (c_l_some : PySem.W.codeIn K cd_l_some "_law_some" = true)
    (k_l_some : PySem.W.keepIn K (.ref f_l_some) = true)
    (a_require_chart : PySem.W.nsIn K mainGlobals "require_chart" = some (some (.ref f_require_chart)))
    (l_require_chart : K.lookup f_require_chart = some ⟨oc_require_chart, od_require_chart, .func (PySem.W.fnOf "require_chart" "require_chart" (defArgs s_require_chart) (defBody s_require_chart) (defScope s_require_chart) .none kV_require_chart dc_require_chart pm_require_chart an_require_chart cd_require_chart ct_require_chart), sl_require_chart⟩)
    (c_require_chart : PySem.W.codeIn K cd_require_chart "require_chart" = true)
    (k_require_chart : PySem.W.keepIn K (.ref f_require_chart) = true)
    (a_is_holder : PySem.W.nsIn K mainGlobals "is_holder" = some (some (.ref f_is_holder)))
    (l_is_holder : K.lookup f_is_holder = some ⟨oc_is_holder, od_is_holder, .func (PySem.W.fnOf "is_holder" "is_holder" (defArgs s_is_holder) (defBody s_is_holder) (defScope s_is_holder) .none kV_is_holder dc_is_holder pm_is_holder an_is_holder cd_is_holder ct_is_holder), sl_is_holder⟩)
    (c_is_holder : PySem.W.codeIn K cd_is_holder "is_holder" = true)
    (k_is_holder : PySem.W.keepIn K (.ref f_is_holder) = true)
    (a_check_arrangement : PySem.W.nsIn K mainGlobals "check_arrangement" = some (some (.ref f_check_arrangement)))
    (l_check_arrangement : K.lookup f_check_arrangement = some ⟨oc_check_arrangement, od_check_arrangement, .func (PySem.W.fnOf "check_arrangement" "check_arrangement" (defArgs s_check_arrangement) (defBody s_check_arrangement) (defScope s_check_arrangement) .none kV_check_arrangement dc_check_arrangement pm_check_arrangement an_check_arrangement cd_check_arrangement ct_check_arrangement), sl_check_arrangement⟩)
    (c_check_arrangement : PySem.W.codeIn K cd_check_arrangement "check_arrangement" = true)
    (k_check_arrangement : PySem.W.keepIn K (.ref f_check_arrangement) = true)
    (a_first_misfit : PySem.W.nsIn K mainGlobals "first_misfit" = some (some (.ref f_first_misfit)))
    (l_first_misfit : K.lookup f_first_misfit = some ⟨oc_first_misfit, od_first_misfit, .func (PySem.W.fnOf "first_misfit" "first_misfit" (defArgs s_first_misfit) (defBody s_first_misfit) (defScope s_first_misfit) .none kV_first_misfit dc_first_misfit pm_first_misfit an_first_misfit cd_first_misfit ct_first_misfit), sl_first_misfit⟩)
    (c_first_misfit : PySem.W.codeIn K cd_first_misfit "first_misfit" = true)
    (k_first_misfit : PySem.W.keepIn K (.ref f_first_misfit) = true)
    (a_posts_below : PySem.W.nsIn K mainGlobals "posts_below" = some (some (.ref f_posts_below)))
    (l_posts_below : K.lookup f_posts_below = some ⟨oc_posts_below, od_posts_below, .func (PySem.W.fnOf "posts_below" "posts_below" (defArgs s_posts_below) (defBody s_posts_below) (defScope s_posts_below) .none kV_posts_below dc_posts_below pm_posts_below an_posts_below cd_posts_below ct_posts_below), sl_posts_below⟩)
    (c_posts_below : PySem.W.codeIn K cd_posts_below "posts_below" = true)
    (k_posts_below : PySem.W.keepIn K (.ref f_posts_below) = true)
    (a_path_to : PySem.W.nsIn K mainGlobals "path_to" = some (some (.ref f_path_to)))
    (l_path_to : K.lookup f_path_to = some ⟨oc_path_to, od_path_to, .func (PySem.W.fnOf "path_to" "path_to" (defArgs s_path_to) (defBody s_path_to) (defScope s_path_to) .none kV_path_to dc_path_to pm_path_to an_path_to cd_path_to ct_path_to), sl_path_to⟩)
    (c_path_to : PySem.W.codeIn K cd_path_to "path_to" = true)
    (k_path_to : PySem.W.keepIn K (.ref f_path_to) = true)
    (a_require_arrangement : PySem.W.nsIn K mainGlobals "require_arrangement" = some (some (.ref f_require_arrangement)))
    (l_require_arrangement : K.lookup f_require_arrangement = some ⟨oc_require_arrangement, od_require_arrangement, .func (PySem.W.fnOf "require_arrangement" "require_arrangement" (defArgs s_require_arrangement) (defBody s_require_arrangement) (defScope s_require_arrangement) .none kV_require_arrangement dc_require_arrangement pm_require_arrangement an_require_arrangement cd_require_arrangement ct_require_arrangement), sl_require_arrangement⟩)
    (c_require_arrangement : PySem.W.codeIn K cd_require_arrangement "require_arrangement" = true)
    (k_require_arrangement : PySem.W.keepIn K (.ref f_require_arrangement) = true)
    (a_require_leavers : PySem.W.nsIn K mainGlobals "require_leavers" = some (some (.ref f_require_leavers)))
    (l_require_leavers : K.lookup f_require_leavers = some ⟨oc_require_leavers, od_require_leavers, .func (PySem.W.fnOf "require_leavers" "require_leavers" (defArgs s_require_leavers) (defBody s_require_leavers) (defScope s_require_leavers) .none kV_require_leavers dc_require_leavers pm_require_leavers an_require_leavers cd_require_leavers ct_require_leavers), sl_require_leavers⟩)
    (c_require_leavers : PySem.W.codeIn K cd_require_leavers "require_leavers" = true)
    (k_require_leavers : PySem.W.keepIn K (.ref f_require_leavers) = true)
    (a_require_people : PySem.W.nsIn K mainGlobals "require_people" = some (some (.ref f_require_people)))
    (l_require_people : K.lookup f_require_people = some ⟨oc_require_people, od_require_people, .func (PySem.W.fnOf "require_people" "require_people" (defArgs s_require_people) (defBody s_require_people) (defScope s_require_people) .none kV_require_people dc_require_people pm_require_people an_require_people cd_require_people ct_require_people), sl_require_people⟩)
    (c_require_people : PySem.W.codeIn K cd_require_people "require_people" = true)
    (k_require_people : PySem.W.keepIn K (.ref f_require_people) = true)
    (a_leave : PySem.W.nsIn K mainGlobals "leave" = some (some (.ref f_leave)))
    (l_leave : K.lookup f_leave = some ⟨oc_leave, od_leave, .func (PySem.W.fnOf "leave" "leave" (defArgs s_leave) (defBody s_leave) (defScope s_leave) .none kV_leave dc_leave pm_leave an_leave cd_leave ct_leave), sl_leave⟩)
    (c_leave : PySem.W.codeIn K cd_leave "leave" = true)
    (k_leave : PySem.W.keepIn K (.ref f_leave) = true)
    (a_reduced : PySem.W.nsIn K mainGlobals "reduced" = some (some (.ref f_reduced)))
    (l_reduced : K.lookup f_reduced = some ⟨oc_reduced, od_reduced, .func (PySem.W.fnOf "reduced" "reduced" (defArgs s_reduced) (defBody s_reduced) (defScope s_reduced) .none kV_reduced dc_reduced pm_reduced an_reduced cd_reduced ct_reduced), sl_reduced⟩)
    (c_reduced : PySem.W.codeIn K cd_reduced "reduced" = true)
    (k_reduced : PySem.W.keepIn K (.ref f_reduced) = true)
    (a_post_of : PySem.W.nsIn K mainGlobals "post_of" = some (some (.ref f_post_of)))
    (l_post_of : K.lookup f_post_of = some ⟨oc_post_of, od_post_of, .func (PySem.W.fnOf "post_of" "post_of" (defArgs s_post_of) (defBody s_post_of) (defScope s_post_of) .none kV_post_of dc_post_of pm_post_of an_post_of cd_post_of ct_post_of), sl_post_of⟩)
    (c_post_of : PySem.W.codeIn K cd_post_of "post_of" = true)
    (k_post_of : PySem.W.keepIn K (.ref f_post_of) = true)
    (a_require_remaining : PySem.W.nsIn K mainGlobals "require_remaining" = some (some (.ref f_require_remaining)))
    (l_require_remaining : K.lookup f_require_remaining = some ⟨oc_require_remaining, od_require_remaining, .func (PySem.W.fnOf "require_remaining" "require_remaining" (defArgs s_require_remaining) (defBody s_require_remaining) (defScope s_require_remaining) .none kV_require_remaining dc_require_remaining pm_require_remaining an_require_remaining cd_require_remaining ct_require_remaining), sl_require_remaining⟩)
    (c_require_remaining : PySem.W.codeIn K cd_require_remaining "require_remaining" = true)
    (k_require_remaining : PySem.W.keepIn K (.ref f_require_remaining) = true)
    (a_l_one_by_one : PySem.W.nsIn K mainGlobals "_law_one_by_one" = some (some (.ref f_l_one_by_one)))
    (l_l_one_by_one : K.lookup f_l_one_by_one = some ⟨oc_l_one_by_one, od_l_one_by_one, .func (PySem.W.fnOf "_law_one_by_one" "_law_one_by_one" (defArgs s_l_one_by_one) (defBody s_l_one_by_one) (defScope s_l_one_by_one) .none kV_l_one_by_one dc_l_one_by_one pm_l_one_by_one an_l_one_by_one cd_l_one_by_one ct_l_one_by_one), sl_l_one_by_one⟩)
    (c_l_one_by_one : PySem.W.codeIn K cd_l_one_by_one "_law_one_by_one" = true)
    (k_l_one_by_one : PySem.W.keepIn K (.ref f_l_one_by_one) = true)
    (a_post_after : PySem.W.nsIn K mainGlobals "post_after" = some (some (.ref f_post_after)))
    (l_post_after : K.lookup f_post_after = some ⟨oc_post_after, od_post_after, .func (PySem.W.fnOf "post_after" "post_after" (defArgs s_post_after) (defBody s_post_after) (defScope s_post_after) .none kV_post_after dc_post_after pm_post_after an_post_after cd_post_after ct_post_after), sl_post_after⟩)
    (c_post_after : PySem.W.codeIn K cd_post_after "post_after" = true)
    (k_post_after : PySem.W.keepIn K (.ref f_post_after) = true)
    (a_l_orders_right : PySem.W.nsIn K mainGlobals "_law_orders_right" = some (some (.ref f_l_orders_right)))
    (l_l_orders_right : K.lookup f_l_orders_right = some ⟨oc_l_orders_right, od_l_orders_right, .func (PySem.W.fnOf "_law_orders_right" "_law_orders_right" (defArgs s_l_orders_right) (defBody s_l_orders_right) (defScope s_l_orders_right) .none kV_l_orders_right dc_l_orders_right pm_l_orders_right an_l_orders_right cd_l_orders_right ct_l_orders_right), sl_l_orders_right⟩)
    (c_l_orders_right : PySem.W.codeIn K cd_l_orders_right "_law_orders_right" = true)
    (k_l_orders_right : PySem.W.keepIn K (.ref f_l_orders_right) = true)
    (a_l_positions_right : PySem.W.nsIn K mainGlobals "_law_positions_right" = some (some (.ref f_l_positions_right)))
    (l_l_positions_right : K.lookup f_l_positions_right = some ⟨oc_l_positions_right, od_l_positions_right, .func (PySem.W.fnOf "_law_positions_right" "_law_positions_right" (defArgs s_l_positions_right) (defBody s_l_positions_right) (defScope s_l_positions_right) .none kV_l_positions_right dc_l_positions_right pm_l_positions_right an_l_positions_right cd_l_positions_right ct_l_positions_right), sl_l_positions_right⟩)
    (c_l_positions_right : PySem.W.codeIn K cd_l_positions_right "_law_positions_right" = true)
    (k_l_positions_right : PySem.W.keepIn K (.ref f_l_positions_right) = true)
    (a_law : PySem.W.nsIn K mainGlobals "law" = some (some (.ref f_law)))
    (l_law : K.lookup f_law = some ⟨oc_law, od_law, .func (PySem.W.fnOf "law" "law" (defArgs s_law) (defBody s_law) (defScope s_law) .none kV_law dc_law pm_law an_law cd_law ct_law), sl_law⟩)
    (c_law : PySem.W.codeIn K cd_law "law" = true)
    (k_law : PySem.W.keepIn K (.ref f_law) = true)
    (z_bool : PySem.W.nsIn K mainGlobals "bool" = some none)
    (z_enumerate : PySem.W.nsIn K mainGlobals "enumerate" = some none)
    (z_int : PySem.W.nsIn K mainGlobals "int" = some none)
    (z_isinstance : PySem.W.nsIn K mainGlobals "isinstance" = some none)
    (z_len : PySem.W.nsIn K mainGlobals "len" = some none)
    (z_list : PySem.W.nsIn K mainGlobals "list" = some none)
    (z_max : PySem.W.nsIn K mainGlobals "max" = some none)
    (z_min : PySem.W.nsIn K mainGlobals "min" = some none)
    (z_range : PySem.W.nsIn K mainGlobals "range" = some none)
    (z_set : PySem.W.nsIn K mainGlobals "set" = some none)
    (z_sorted : PySem.W.nsIn K mainGlobals "sorted" = some none)
    (z_tuple : PySem.W.nsIn K mainGlobals "tuple" = some none)
    (kt : ktB K = true) :
    ∃ fd : FuncData, (∀ (s : Shared) (v : Value), BindsTo s fd ⟨[v], []⟩ [("_law_script", v)]) ∧ ∀ base : Heap, K.In base → base.Ns mainGlobals mg → FnG l.prog w K mg base 10 fa fd ["_law_script"] (spLaw K) := by
  have e := hfa.symm.trans (PySem.W.mg_of X G a_law)
  cases e
  have F_l_cell := fun_mk (st := s_l_cell) l_l_cell c_l_cell k_l_cell
  have B_l_cell : Binds K _ P_l_cell [] := F_l_cell.binds (ps := P_l_cell) fun _ _ _ _ _ _ us hl => match us, hl with | [_, _], _ => rfl
  have F_l_hash := fun_mk (st := s_l_hash) l_l_hash c_l_hash k_l_hash
  have B_l_hash : Binds K _ P_l_hash [] := F_l_hash.binds (ps := P_l_hash) fun _ _ _ _ _ _ us hl => match us, hl with | [_, _], _ => rfl
  have F_l_open := fun_mk (st := s_l_open) l_l_open c_l_open k_l_open
  have B_l_open : Binds K _ P_l_open [] := F_l_open.binds (ps := P_l_open) fun _ _ _ _ _ _ us hl => match us, hl with | [_, _], _ => rfl
  have F_l_held := fun_mk (st := s_l_held) l_l_held c_l_held k_l_held
  have B_l_held : Binds K _ P_l_held [] := F_l_held.binds (ps := P_l_held) fun _ _ _ _ _ _ us hl => match us, hl with | [_], _ => rfl
  have F_is_whole := fun_mk (st := s_is_whole) l_is_whole c_is_whole k_is_whole
  have B_is_whole : Binds K _ P_is_whole [] := F_is_whole.binds (ps := P_is_whole) fun _ _ _ _ _ _ us hl => match us, hl with | [_], _ => rfl
  have F_may_stand_below := fun_mk (st := s_may_stand_below) l_may_stand_below c_may_stand_below k_may_stand_below
  have B_may_stand_below : Binds K _ P_may_stand_below [] := F_may_stand_below.binds (ps := P_may_stand_below) fun _ _ _ _ _ _ us hl => match us, hl with | [_, _], _ => rfl
  have F_posts_under := fun_mk (st := s_posts_under) l_posts_under c_posts_under k_posts_under
  have B_posts_under : Binds K _ P_posts_under [] := F_posts_under.binds (ps := P_posts_under) fun _ _ _ _ _ _ us hl => match us, hl with | [_], _ => rfl
  have F_next_in_line := fun_mk (st := s_next_in_line) l_next_in_line c_next_in_line k_next_in_line
  have B_next_in_line : Binds K _ P_next_in_line [] := F_next_in_line.binds (ps := P_next_in_line) fun _ _ _ _ _ _ us hl => match us, hl with | [_, _, _], _ => rfl
  have F_people_of := fun_mk (st := s_people_of) l_people_of c_people_of k_people_of
  have B_people_of : Binds K _ P_people_of [] := F_people_of.binds (ps := P_people_of) fun _ _ _ _ _ _ us hl => match us, hl with | [_], _ => rfl
  have F_place_of := fun_mk (st := s_place_of) l_place_of c_place_of k_place_of
  have B_place_of : Binds K _ P_place_of [] := F_place_of.binds (ps := P_place_of) fun _ _ _ _ _ _ us hl => match us, hl with | [_, _], _ => rfl
  have F_way_down := fun_mk (st := s_way_down) l_way_down c_way_down k_way_down
  have B_way_down : Binds K _ P_way_down [] := F_way_down.binds (ps := P_way_down) fun _ _ _ _ _ _ us hl => match us, hl with | [_, _], _ => rfl
  have F_l_generator := fun_mk (st := s_l_generator) l_l_generator c_l_generator k_l_generator
  have B_l_generator : Binds K _ P_l_generator [] := F_l_generator.binds (ps := P_l_generator) fun _ _ _ _ _ _ us hl => match us, hl with | [_, _], _ => rfl
  have F_l_random := fun_mk (st := s_l_random) l_l_random c_l_random k_l_random
  have B_l_random : Binds K _ P_l_random [] := F_l_random.binds (ps := P_l_random) fun _ _ _ _ _ _ us hl => match us, hl with | [_, _], _ => rfl
  have F_is_post := fun_mk (st := s_is_post) l_is_post c_is_post k_is_post
  have B_is_post : Binds K _ P_is_post [] := F_is_post.binds (ps := P_is_post) fun _ _ _ _ _ _ us hl => match us, hl with | [_, _], _ => rfl
  have F_is_amount := fun_mk (st := s_is_amount) l_is_amount c_is_amount k_is_amount
  have B_is_amount : Binds K _ P_is_amount [] := F_is_amount.binds (ps := P_is_amount) fun _ _ _ _ _ _ us hl => match us, hl with | [_], _ => rfl
  have F_depart := fun_mk (st := s_depart) l_depart c_depart k_depart
  have B_depart : Binds K _ P_depart [] := F_depart.binds (ps := P_depart) fun _ _ _ _ _ _ us hl => match us, hl with | [_, _, _], _ => rfl
  have F_l_random_chart := fun_mk (st := s_l_random_chart) l_l_random_chart c_l_random_chart k_l_random_chart
  have B_l_random_chart : Binds K _ P_l_random_chart [] := F_l_random_chart.binds (ps := P_l_random_chart) fun _ _ _ _ _ _ us hl => match us, hl with | [_, _], _ => rfl
  have F_l_filled := fun_mk (st := s_l_filled) l_l_filled c_l_filled k_l_filled
  have B_l_filled : Binds K _ P_l_filled [] := F_l_filled.binds (ps := P_l_filled) fun _ _ _ _ _ _ us hl => match us, hl with | [_, _, _], _ => rfl
  have F_l_names := fun_mk (st := s_l_names) l_l_names c_l_names k_l_names
  have B_l_names : Binds K _ P_l_names [] := F_l_names.binds (ps := P_l_names) fun _ _ _ _ _ _ us hl => match us, hl with | [_, _], _ => rfl
  have F_l_shuffled := fun_mk (st := s_l_shuffled) l_l_shuffled c_l_shuffled k_l_shuffled
  have B_l_shuffled : Binds K _ P_l_shuffled [] := F_l_shuffled.binds (ps := P_l_shuffled) fun _ _ _ _ _ _ us hl => match us, hl with | [_, _], _ => rfl
  have F_check_chart := fun_mk (st := s_check_chart) l_check_chart c_check_chart k_check_chart
  have B_check_chart : Binds K _ P_check_chart [] := F_check_chart.binds (ps := P_check_chart) fun _ _ _ _ _ _ us hl => match us, hl with | [_], _ => rfl
  have F_is_person := fun_mk (st := s_is_person) l_is_person c_is_person k_is_person
  have B_is_person : Binds K _ P_is_person [] := F_is_person.binds (ps := P_is_person) fun _ _ _ _ _ _ us hl => match us, hl with | [_], _ => rfl
  have F_after_departures := fun_mk (st := s_after_departures) l_after_departures c_after_departures k_after_departures
  have B_after_departures : Binds K _ P_after_departures [] := F_after_departures.binds (ps := P_after_departures) fun _ _ _ _ _ _ us hl => match us, hl with | [_, _, _], _ => rfl
  have F_require_post := fun_mk (st := s_require_post) l_require_post c_require_post k_require_post
  have B_require_post : Binds K _ P_require_post [] := F_require_post.binds (ps := P_require_post) fun _ _ _ _ _ _ us hl => match us, hl with | [_, _], _ => rfl
  have F_l_random_rows := fun_mk (st := s_l_random_rows) l_l_random_rows c_l_random_rows k_l_random_rows
  have B_l_random_rows : Binds K _ P_l_random_rows [] := F_l_random_rows.binds (ps := P_l_random_rows) fun _ _ _ _ _ _ us hl => match us, hl with | [_, _], _ => rfl
  have F_l_some := fun_mk (st := s_l_some) l_l_some c_l_some k_l_some
  have B_l_some : Binds K _ P_l_some [] := F_l_some.binds (ps := P_l_some) fun _ _ _ _ _ _ us hl => match us, hl with | [_, _], _ => rfl
  have F_require_chart := fun_mk (st := s_require_chart) l_require_chart c_require_chart k_require_chart
  have B_require_chart : Binds K _ P_require_chart [] := F_require_chart.binds (ps := P_require_chart) fun _ _ _ _ _ _ us hl => match us, hl with | [_], _ => rfl
  have F_is_holder := fun_mk (st := s_is_holder) l_is_holder c_is_holder k_is_holder
  have B_is_holder : Binds K _ P_is_holder [] := F_is_holder.binds (ps := P_is_holder) fun _ _ _ _ _ _ us hl => match us, hl with | [_, _], _ => rfl
  have F_check_arrangement := fun_mk (st := s_check_arrangement) l_check_arrangement c_check_arrangement k_check_arrangement
  have B_check_arrangement : Binds K _ P_check_arrangement [] := F_check_arrangement.binds (ps := P_check_arrangement) fun _ _ _ _ _ _ us hl => match us, hl with | [_, _], _ => rfl
  have F_first_misfit := fun_mk (st := s_first_misfit) l_first_misfit c_first_misfit k_first_misfit
  have B_first_misfit : Binds K _ P_first_misfit [] := F_first_misfit.binds (ps := P_first_misfit) fun _ _ _ _ _ _ us hl => match us, hl with | [_, _], _ => rfl
  have F_posts_below := fun_mk (st := s_posts_below) l_posts_below c_posts_below k_posts_below
  have B_posts_below : Binds K _ P_posts_below [] := F_posts_below.binds (ps := P_posts_below) fun _ _ _ _ _ _ us hl => match us, hl with | [_, _], _ => rfl
  have F_path_to := fun_mk (st := s_path_to) l_path_to c_path_to k_path_to
  have B_path_to : Binds K _ P_path_to [] := F_path_to.binds (ps := P_path_to) fun _ _ _ _ _ _ us hl => match us, hl with | [_, _], _ => rfl
  have F_require_arrangement := fun_mk (st := s_require_arrangement) l_require_arrangement c_require_arrangement k_require_arrangement
  have B_require_arrangement : Binds K _ P_require_arrangement [] := F_require_arrangement.binds (ps := P_require_arrangement) fun _ _ _ _ _ _ us hl => match us, hl with | [_, _], _ => rfl
  have F_require_leavers := fun_mk (st := s_require_leavers) l_require_leavers c_require_leavers k_require_leavers
  have B_require_leavers : Binds K _ P_require_leavers [] := F_require_leavers.binds (ps := P_require_leavers) fun _ _ _ _ _ _ us hl => match us, hl with | [_, _], _ => rfl
  have F_require_people := fun_mk (st := s_require_people) l_require_people c_require_people k_require_people
  have B_require_people : Binds K _ P_require_people [] := F_require_people.binds (ps := P_require_people) fun _ _ _ _ _ _ us hl => match us, hl with | [_, _], _ => rfl
  have F_leave := fun_mk (st := s_leave) l_leave c_leave k_leave
  have F_reduced := fun_mk (st := s_reduced) l_reduced c_reduced k_reduced
  have B_reduced : Binds K _ P_reduced [] := F_reduced.binds (ps := P_reduced) fun _ _ _ _ _ _ us hl => match us, hl with | [_, _, _], _ => rfl
  have F_post_of := fun_mk (st := s_post_of) l_post_of c_post_of k_post_of
  have B_post_of : Binds K _ P_post_of [] := F_post_of.binds (ps := P_post_of) fun _ _ _ _ _ _ us hl => match us, hl with | [_, _, _], _ => rfl
  have F_require_remaining := fun_mk (st := s_require_remaining) l_require_remaining c_require_remaining k_require_remaining
  have B_require_remaining : Binds K _ P_require_remaining [] := F_require_remaining.binds (ps := P_require_remaining) fun _ _ _ _ _ _ us hl => match us, hl with | [_, _, _, _], _ => rfl
  have F_l_one_by_one := fun_mk (st := s_l_one_by_one) l_l_one_by_one c_l_one_by_one k_l_one_by_one
  have B_l_one_by_one : Binds K _ P_l_one_by_one [] := F_l_one_by_one.binds (ps := P_l_one_by_one) fun _ _ _ _ _ _ us hl => match us, hl with | [_, _, _], _ => rfl
  have F_post_after := fun_mk (st := s_post_after) l_post_after c_post_after k_post_after
  have B_post_after : Binds K _ P_post_after [] := F_post_after.binds (ps := P_post_after) fun _ _ _ _ _ _ us hl => match us, hl with | [_, _, _, _], _ => rfl
  have F_l_orders_right := fun_mk (st := s_l_orders_right) l_l_orders_right c_l_orders_right k_l_orders_right
  have B_l_orders_right : Binds K _ P_l_orders_right [] := F_l_orders_right.binds (ps := P_l_orders_right) fun _ _ _ _ _ _ us hl => match us, hl with | [_, _, _, _, _], _ => rfl
  have F_l_positions_right := fun_mk (st := s_l_positions_right) l_l_positions_right c_l_positions_right k_l_positions_right
  have B_l_positions_right : Binds K _ P_l_positions_right [] := F_l_positions_right.binds (ps := P_l_positions_right) fun _ _ _ _ _ _ us hl => match us, hl with | [_, _, _], _ => rfl
  have F_law := fun_mk (st := s_law) l_law c_law k_law
  have B_law : Binds K _ P_law [] := F_law.binds (ps := P_law) fun _ _ _ _ _ _ us hl => match us, hl with | [_], _ => rfl
  let T : Tx K mg := { a_l_cell := f_l_cell, d_l_cell := _, f_l_cell := F_l_cell, b_l_cell := B_l_cell, m_l_cell := PySem.W.mg_of X G a_l_cell, a_l_hash := f_l_hash, d_l_hash := _, f_l_hash := F_l_hash, b_l_hash := B_l_hash, m_l_hash := PySem.W.mg_of X G a_l_hash, a_l_open := f_l_open, d_l_open := _, f_l_open := F_l_open, b_l_open := B_l_open, m_l_open := PySem.W.mg_of X G a_l_open, a_l_held := f_l_held, d_l_held := _, f_l_held := F_l_held, b_l_held := B_l_held, m_l_held := PySem.W.mg_of X G a_l_held, a_is_whole := f_is_whole, d_is_whole := _, f_is_whole := F_is_whole, b_is_whole := B_is_whole, m_is_whole := PySem.W.mg_of X G a_is_whole, a_may_stand_below := f_may_stand_below, d_may_stand_below := _, f_may_stand_below := F_may_stand_below, b_may_stand_below := B_may_stand_below, m_may_stand_below := PySem.W.mg_of X G a_may_stand_below, a_posts_under := f_posts_under, d_posts_under := _, f_posts_under := F_posts_under, b_posts_under := B_posts_under, m_posts_under := PySem.W.mg_of X G a_posts_under, a_next_in_line := f_next_in_line, d_next_in_line := _, f_next_in_line := F_next_in_line, b_next_in_line := B_next_in_line, m_next_in_line := PySem.W.mg_of X G a_next_in_line, a_people_of := f_people_of, d_people_of := _, f_people_of := F_people_of, b_people_of := B_people_of, m_people_of := PySem.W.mg_of X G a_people_of, a_place_of := f_place_of, d_place_of := _, f_place_of := F_place_of, b_place_of := B_place_of, m_place_of := PySem.W.mg_of X G a_place_of, a_way_down := f_way_down, d_way_down := _, f_way_down := F_way_down, b_way_down := B_way_down, m_way_down := PySem.W.mg_of X G a_way_down, a_l_generator := f_l_generator, d_l_generator := _, f_l_generator := F_l_generator, b_l_generator := B_l_generator, m_l_generator := PySem.W.mg_of X G a_l_generator, a_l_random := f_l_random, d_l_random := _, f_l_random := F_l_random, b_l_random := B_l_random, m_l_random := PySem.W.mg_of X G a_l_random, a_is_post := f_is_post, d_is_post := _, f_is_post := F_is_post, b_is_post := B_is_post, m_is_post := PySem.W.mg_of X G a_is_post, a_is_amount := f_is_amount, d_is_amount := _, f_is_amount := F_is_amount, b_is_amount := B_is_amount, m_is_amount := PySem.W.mg_of X G a_is_amount, a_depart := f_depart, d_depart := _, f_depart := F_depart, b_depart := B_depart, m_depart := PySem.W.mg_of X G a_depart, a_l_random_chart := f_l_random_chart, d_l_random_chart := _, f_l_random_chart := F_l_random_chart, b_l_random_chart := B_l_random_chart, m_l_random_chart := PySem.W.mg_of X G a_l_random_chart, a_l_filled := f_l_filled, d_l_filled := _, f_l_filled := F_l_filled, b_l_filled := B_l_filled, m_l_filled := PySem.W.mg_of X G a_l_filled, a_l_names := f_l_names, d_l_names := _, f_l_names := F_l_names, b_l_names := B_l_names, m_l_names := PySem.W.mg_of X G a_l_names, a_l_shuffled := f_l_shuffled, d_l_shuffled := _, f_l_shuffled := F_l_shuffled, b_l_shuffled := B_l_shuffled, m_l_shuffled := PySem.W.mg_of X G a_l_shuffled, a_check_chart := f_check_chart, d_check_chart := _, f_check_chart := F_check_chart, b_check_chart := B_check_chart, m_check_chart := PySem.W.mg_of X G a_check_chart, a_is_person := f_is_person, d_is_person := _, f_is_person := F_is_person, b_is_person := B_is_person, m_is_person := PySem.W.mg_of X G a_is_person, a_after_departures := f_after_departures, d_after_departures := _, f_after_departures := F_after_departures, b_after_departures := B_after_departures, m_after_departures := PySem.W.mg_of X G a_after_departures, a_require_post := f_require_post, d_require_post := _, f_require_post := F_require_post, b_require_post := B_require_post, m_require_post := PySem.W.mg_of X G a_require_post, a_l_random_rows := f_l_random_rows, d_l_random_rows := _, f_l_random_rows := F_l_random_rows, b_l_random_rows := B_l_random_rows, m_l_random_rows := PySem.W.mg_of X G a_l_random_rows, a_l_some := f_l_some, d_l_some := _, f_l_some := F_l_some, b_l_some := B_l_some, m_l_some := PySem.W.mg_of X G a_l_some, a_require_chart := f_require_chart, d_require_chart := _, f_require_chart := F_require_chart, b_require_chart := B_require_chart, m_require_chart := PySem.W.mg_of X G a_require_chart, a_is_holder := f_is_holder, d_is_holder := _, f_is_holder := F_is_holder, b_is_holder := B_is_holder, m_is_holder := PySem.W.mg_of X G a_is_holder, a_check_arrangement := f_check_arrangement, d_check_arrangement := _, f_check_arrangement := F_check_arrangement, b_check_arrangement := B_check_arrangement, m_check_arrangement := PySem.W.mg_of X G a_check_arrangement, a_first_misfit := f_first_misfit, d_first_misfit := _, f_first_misfit := F_first_misfit, b_first_misfit := B_first_misfit, m_first_misfit := PySem.W.mg_of X G a_first_misfit, a_posts_below := f_posts_below, d_posts_below := _, f_posts_below := F_posts_below, b_posts_below := B_posts_below, m_posts_below := PySem.W.mg_of X G a_posts_below, a_path_to := f_path_to, d_path_to := _, f_path_to := F_path_to, b_path_to := B_path_to, m_path_to := PySem.W.mg_of X G a_path_to, a_require_arrangement := f_require_arrangement, d_require_arrangement := _, f_require_arrangement := F_require_arrangement, b_require_arrangement := B_require_arrangement, m_require_arrangement := PySem.W.mg_of X G a_require_arrangement, a_require_leavers := f_require_leavers, d_require_leavers := _, f_require_leavers := F_require_leavers, b_require_leavers := B_require_leavers, m_require_leavers := PySem.W.mg_of X G a_require_leavers, a_require_people := f_require_people, d_require_people := _, f_require_people := F_require_people, b_require_people := B_require_people, m_require_people := PySem.W.mg_of X G a_require_people, a_leave := f_leave, d_leave := _, f_leave := F_leave, m_leave := PySem.W.mg_of X G a_leave, a_reduced := f_reduced, d_reduced := _, f_reduced := F_reduced, b_reduced := B_reduced, m_reduced := PySem.W.mg_of X G a_reduced, a_post_of := f_post_of, d_post_of := _, f_post_of := F_post_of, b_post_of := B_post_of, m_post_of := PySem.W.mg_of X G a_post_of, a_require_remaining := f_require_remaining, d_require_remaining := _, f_require_remaining := F_require_remaining, b_require_remaining := B_require_remaining, m_require_remaining := PySem.W.mg_of X G a_require_remaining, a_l_one_by_one := f_l_one_by_one, d_l_one_by_one := _, f_l_one_by_one := F_l_one_by_one, b_l_one_by_one := B_l_one_by_one, m_l_one_by_one := PySem.W.mg_of X G a_l_one_by_one, a_post_after := f_post_after, d_post_after := _, f_post_after := F_post_after, b_post_after := B_post_after, m_post_after := PySem.W.mg_of X G a_post_after, a_l_orders_right := f_l_orders_right, d_l_orders_right := _, f_l_orders_right := F_l_orders_right, b_l_orders_right := B_l_orders_right, m_l_orders_right := PySem.W.mg_of X G a_l_orders_right, a_l_positions_right := f_l_positions_right, d_l_positions_right := _, f_l_positions_right := F_l_positions_right, b_l_positions_right := B_l_positions_right, m_l_positions_right := PySem.W.mg_of X G a_l_positions_right, a_law := fa, d_law := _, f_law := F_law, b_law := B_law, m_law := PySem.W.mg_of X G a_law, kt := kt_of kt, z_bool := PySem.W.mg_none_of X G z_bool, z_enumerate := PySem.W.mg_none_of X G z_enumerate, z_int := PySem.W.mg_none_of X G z_int, z_isinstance := PySem.W.mg_none_of X G z_isinstance, z_len := PySem.W.mg_none_of X G z_len, z_list := PySem.W.mg_none_of X G z_list, z_max := PySem.W.mg_none_of X G z_max, z_min := PySem.W.mg_none_of X G z_min, z_range := PySem.W.mg_none_of X G z_range, z_set := PySem.W.mg_none_of X G z_set, z_sorted := PySem.W.mg_none_of X G z_sorted, z_tuple := PySem.W.mg_none_of X G z_tuple }
  exact ⟨_, fun s v => .of_eq rfl, fun base _ _ => ok_end T⟩
end Law
open PySem PySem.W PyProof.Rows in
set_option maxRecDepth 100000 in
set_option maxHeartbeats 0 in
theorem PySem.Challenge.cw_movingup_k80_whole_departures_in_any_ord_holds : PySem.Challenge.rw_movingup_k80_whole_departures_in_any_ord.Holds := by
  w_on; o_law; k_head; (case hw => w_witness2)
  k_fill
  refine MU.walk_ofG (l := PySem.Challenge.rw_movingup_k80_whole_departures_in_any_ord) (n := 63) (k := 10) (x := "_law_script") (sp := fun w => MU.spLaw _) rfl (by decide) rfl ⟨rfl, by decide, by decide⟩ (fun w h Y => PySem.W.kIn_of Y) ?F (fun _ _ a ns hl hO hS => ⟨a, ns, rfl, hS, hl, MU.only_nod hO, fun _ => rfl⟩)
  case F =>
    intro w mg fa h KX G hmg
    refine' Law.all_mk KX G hmg ?a_l_cell ?l_l_cell ?c_l_cell ?k_l_cell ?a_l_hash ?l_l_hash ?c_l_hash ?k_l_hash ?a_l_open ?l_l_open ?c_l_open ?k_l_open ?a_l_held ?l_l_held ?c_l_held ?k_l_held ?a_is_whole ?l_is_whole ?c_is_whole ?k_is_whole ?a_may_stand_below ?l_may_stand_below ?c_may_stand_below ?k_may_stand_below ?a_posts_under ?l_posts_under ?c_posts_under ?k_posts_under ?a_next_in_line ?l_next_in_line ?c_next_in_line ?k_next_in_line ?a_people_of ?l_people_of ?c_people_of ?k_people_of ?a_place_of ?l_place_of ?c_place_of ?k_place_of ?a_way_down ?l_way_down ?c_way_down ?k_way_down ?a_l_generator ?l_l_generator ?c_l_generator ?k_l_generator ?a_l_random ?l_l_random ?c_l_random ?k_l_random ?a_is_post ?l_is_post ?c_is_post ?k_is_post ?a_is_amount ?l_is_amount ?c_is_amount ?k_is_amount ?a_depart ?l_depart ?c_depart ?k_depart ?a_l_random_chart ?l_l_random_chart ?c_l_random_chart ?k_l_random_chart ?a_l_filled ?l_l_filled ?c_l_filled ?k_l_filled ?a_l_names ?l_l_names ?c_l_names ?k_l_names ?a_l_shuffled ?l_l_shuffled ?c_l_shuffled ?k_l_shuffled ?a_check_chart ?l_check_chart ?c_check_chart ?k_check_chart ?a_is_person ?l_is_person ?c_is_person ?k_is_person ?a_after_departures ?l_after_departures ?c_after_departures ?k_after_departures ?a_require_post ?l_require_post ?c_require_post ?k_require_post ?a_l_random_rows ?l_l_random_rows ?c_l_random_rows ?k_l_random_rows ?a_l_some ?l_l_some ?c_l_some ?k_l_some ?a_require_chart ?l_require_chart ?c_require_chart ?k_require_chart ?a_is_holder ?l_is_holder ?c_is_holder ?k_is_holder ?a_check_arrangement ?l_check_arrangement ?c_check_arrangement ?k_check_arrangement ?a_first_misfit ?l_first_misfit ?c_first_misfit ?k_first_misfit ?a_posts_below ?l_posts_below ?c_posts_below ?k_posts_below ?a_path_to ?l_path_to ?c_path_to ?k_path_to ?a_require_arrangement ?l_require_arrangement ?c_require_arrangement ?k_require_arrangement ?a_require_leavers ?l_require_leavers ?c_require_leavers ?k_require_leavers ?a_require_people ?l_require_people ?c_require_people ?k_require_people ?a_leave ?l_leave ?c_leave ?k_leave ?a_reduced ?l_reduced ?c_reduced ?k_reduced ?a_post_of ?l_post_of ?c_post_of ?k_post_of ?a_require_remaining ?l_require_remaining ?c_require_remaining ?k_require_remaining ?a_l_one_by_one ?l_l_one_by_one ?c_l_one_by_one ?k_l_one_by_one ?a_post_after ?l_post_after ?c_post_after ?k_post_after ?a_l_orders_right ?l_l_orders_right ?c_l_orders_right ?k_l_orders_right ?a_l_positions_right ?l_l_positions_right ?c_l_positions_right ?k_l_positions_right ?a_law ?l_law ?c_law ?k_law ?z_bool ?z_enumerate ?z_int ?z_isinstance ?z_len ?z_list ?z_max ?z_min ?z_range ?z_set ?z_sorted ?z_tuple ?kt
    (case a_l_cell => k_is); (case l_l_cell => k_is); (case c_l_cell => k_is); (case k_l_cell => k_is); (case a_l_hash => k_is); (case l_l_hash => k_is); (case c_l_hash => k_is); (case k_l_hash => k_is); (case a_l_open => k_is); (case l_l_open => k_is); (case c_l_open => k_is); (case k_l_open => k_is); (case a_l_held => k_is); (case l_l_held => k_is); (case c_l_held => k_is); (case k_l_held => k_is); (case a_is_whole => k_is); (case l_is_whole => k_is); (case c_is_whole => k_is); (case k_is_whole => k_is); (case a_may_stand_below => k_is); (case l_may_stand_below => k_is); (case c_may_stand_below => k_is); (case k_may_stand_below => k_is); (case a_posts_under => k_is); (case l_posts_under => k_is); (case c_posts_under => k_is); (case k_posts_under => k_is); (case a_next_in_line => k_is); (case l_next_in_line => k_is); (case c_next_in_line => k_is); (case k_next_in_line => k_is); (case a_people_of => k_is); (case l_people_of => k_is); (case c_people_of => k_is); (case k_people_of => k_is); (case a_place_of => k_is); (case l_place_of => k_is); (case c_place_of => k_is); (case k_place_of => k_is); (case a_way_down => k_is); (case l_way_down => k_is); (case c_way_down => k_is); (case k_way_down => k_is); (case a_l_generator => k_is); (case l_l_generator => k_is); (case c_l_generator => k_is); (case k_l_generator => k_is); (case a_l_random => k_is); (case l_l_random => k_is); (case c_l_random => k_is); (case k_l_random => k_is); (case a_is_post => k_is); (case l_is_post => k_is); (case c_is_post => k_is); (case k_is_post => k_is); (case a_is_amount => k_is); (case l_is_amount => k_is); (case c_is_amount => k_is); (case k_is_amount => k_is); (case a_depart => k_is); (case l_depart => k_is); (case c_depart => k_is); (case k_depart => k_is); (case a_l_random_chart => k_is); (case l_l_random_chart => k_is); (case c_l_random_chart => k_is); (case k_l_random_chart => k_is); (case a_l_filled => k_is); (case l_l_filled => k_is); (case c_l_filled => k_is); (case k_l_filled => k_is); (case a_l_names => k_is); (case l_l_names => k_is); (case c_l_names => k_is); (case k_l_names => k_is); (case a_l_shuffled => k_is); (case l_l_shuffled => k_is); (case c_l_shuffled => k_is); (case k_l_shuffled => k_is); (case a_check_chart => k_is); (case l_check_chart => k_is); (case c_check_chart => k_is); (case k_check_chart => k_is); (case a_is_person => k_is); (case l_is_person => k_is); (case c_is_person => k_is); (case k_is_person => k_is); (case a_after_departures => k_is); (case l_after_departures => k_is); (case c_after_departures => k_is); (case k_after_departures => k_is); (case a_require_post => k_is); (case l_require_post => k_is); (case c_require_post => k_is); (case k_require_post => k_is); (case a_l_random_rows => k_is); (case l_l_random_rows => k_is); (case c_l_random_rows => k_is); (case k_l_random_rows => k_is); (case a_l_some => k_is); (case l_l_some => k_is); (case c_l_some => k_is); (case k_l_some => k_is); (case a_require_chart => k_is); (case l_require_chart => k_is); (case c_require_chart => k_is); (case k_require_chart => k_is); (case a_is_holder => k_is); (case l_is_holder => k_is); (case c_is_holder => k_is); (case k_is_holder => k_is); (case a_check_arrangement => k_is); (case l_check_arrangement => k_is); (case c_check_arrangement => k_is); (case k_check_arrangement => k_is); (case a_first_misfit => k_is); (case l_first_misfit => k_is); (case c_first_misfit => k_is); (case k_first_misfit => k_is); (case a_posts_below => k_is); (case l_posts_below => k_is); (case c_posts_below => k_is); (case k_posts_below => k_is); (case a_path_to => k_is); (case l_path_to => k_is); (case c_path_to => k_is); (case k_path_to => k_is); (case a_require_arrangement => k_is); (case l_require_arrangement => k_is); (case c_require_arrangement => k_is); (case k_require_arrangement => k_is); (case a_require_leavers => k_is); (case l_require_leavers => k_is); (case c_require_leavers => k_is); (case k_require_leavers => k_is); (case a_require_people => k_is); (case l_require_people => k_is); (case c_require_people => k_is); (case k_require_people => k_is); (case a_leave => k_is); (case l_leave => k_is); (case c_leave => k_is); (case k_leave => k_is); (case a_reduced => k_is); (case l_reduced => k_is); (case c_reduced => k_is); (case k_reduced => k_is); (case a_post_of => k_is); (case l_post_of => k_is); (case c_post_of => k_is); (case k_post_of => k_is); (case a_require_remaining => k_is); (case l_require_remaining => k_is); (case c_require_remaining => k_is); (case k_require_remaining => k_is); (case a_l_one_by_one => k_is); (case l_l_one_by_one => k_is); (case c_l_one_by_one => k_is); (case k_l_one_by_one => k_is); (case a_post_after => k_is); (case l_post_after => k_is); (case c_post_after => k_is); (case k_post_after => k_is); (case a_l_orders_right => k_is); (case l_l_orders_right => k_is); (case c_l_orders_right => k_is); (case k_l_orders_right => k_is); (case a_l_positions_right => k_is); (case l_l_positions_right => k_is); (case c_l_positions_right => k_is); (case k_l_positions_right => k_is); (case a_law => k_is); (case l_law => k_is); (case c_law => k_is); (case k_law => k_is); (case z_bool => k_is); (case z_enumerate => k_is); (case z_int => k_is); (case z_isinstance => k_is); (case z_len => k_is); (case z_list => k_is); (case z_max => k_is); (case z_min => k_is); (case z_range => k_is); (case z_set => k_is); (case z_sorted => k_is); (case z_tuple => k_is); (case kt => rfl)

import PyProof.Rows.All
import Wide.All
import OpenK.AllK
import Wide.FinOn
import HandS.ForMost
import HandS.Wide
import HandS.WideBits
import HandS.Flow
import HandS.TupAny
import HandS.TupMul
import HandS.Strs
import HandS.SortInts
import HandS.IsInst
import HandS.Deep
import HandS.RaiseMore
import KE.GoesEnum
import HandS.NoneIn
import HandS.SetKeys
import HandS.TupLen
import PyProof.ReprRoads
import PyProof.ReprLen
import PySem.Challenge.RW_movingup_k08_posts_of_people
set_option Elab.async false
set_option linter.all false
set_option maxRecDepth 100000
set_option maxHeartbeats 4000000
namespace MU
open PySem PySem.Spec PyProof.Rows L2
/-! tuples that are known to have no dict of their own: they stand as frozen ones -/
def NoD (H : Hp) : Prop := ∀ a, (∀ xs, H a ≠ some (.tup xs)) ∧ ∀ o xs, H a = some (.frz o (.tup xs)) → o.dict = none
structure OkO (o : HO) : Prop where
  nt : ∀ xs, o ≠ .tup xs
  nd : ∀ ob xs, o = .frz ob (.tup xs) → ob.dict = none
theorem ok_tup {ob : Obj} {xs : List V} (h : ob.dict = none) : OkO (.frz ob (.tup xs)) := ⟨fun _ z => (by cases z), fun _ _ z => (by cases z; exact h)⟩
theorem ok_lst {xs : List V} : OkO (.lst xs) := ⟨fun _ z => (by cases z), fun _ _ z => (by cases z)⟩
theorem NoD.put {H : Hp} {p : Addr} {o : HO} (h : NoD H) (k : OkO o) : NoD (upd H p o) := fun a => by
  by_cases e : a = p
  · subst e
    rw [upd_same]
    exact ⟨fun xs z => k.nt xs (Option.some.inj z), fun ob xs z => k.nd ob xs (Option.some.inj z)⟩
  · rw [upd_ne e]
    exact h a
/-- a new tuple at p -/
def NewT (H : Hp) (p : Addr) (ys : List V) (Q : VK) : Prop := ∀ o : Obj, o.dict = none → Q (.ref p) (upd H p (.frz o (.tup ys)))
section
variable {X : Cx}
theorem laidT {pins : List (Addr × Obj)} {σ : L2.St} {H : Hp} {s : Shared} {h' : Heap} {tk : Tok} {ys : List V} {its : List Value} {Q : VK} (I : Inv X pins σ H { s with heap := h', toks := tk }) (r : Vals ys its) (hl : ys.length ≤ sizeLine)
    (q : ∀ p, H p = none → NewT H p ys Q) : EP X pins σ Q (.ref h'.objs.size) { s with heap := h'.push { cls := .type "tuple", data := .seq its.toArray }, toks := tk } := by
  have got : (h'.push { cls := .type "tuple", data := .seq its.toArray }).get? h'.objs.size = some { cls := .type "tuple", data := .seq its.toArray } := Heap.get?_push_size _ rfl
  refine ⟨.ref h'.objs.size, _, I.laid (t' := tk) (o := .frz { cls := .type "tuple", data := .seq its.toArray } (.tup ys)) (fun b o e => Heap.get?_push_of_some _ e) (Nat.le_refl _) ⟨got, hl, its, r, _, got, rfl, _, rfl⟩, rfl, q _ (I.hok.fresh (Nat.le_refl _)) _ rfl⟩
/-- a tuple display -/
def tTupN (t : TA) : TE := fun σ H Q => t σ H fun xs H1 => xs.length ≤ sizeLine ∧ ∀ p, H1 p = none → NewT H1 p xs Q
theorem pe_tupN {es : List Expr} {t : TA} {pos : Pos} {x1} (h : PA X es t) : PE X (.Tuple es x1 pos) (tTupN t) :=
  ⟨fun pins s σ H Q I hq => wpAny_Tuple_spliced (thn (h.run pos pins s σ H _ I hq) fun us s1 ⟨xs, H1, I1, r, z, q⟩ => ⟨by rw [← r.length]; exact z, laidT (s := s1) (h' := s1.heap) (tk := s1.toks) I1 r z q⟩)⟩
/-- tuple(xs) -/
def rTupOfN (K : PySem.W.Frag) : List V → Hp → VK → Prop := fun xs H Q => ∃ p ys, xs = [.ref p] ∧ ((SqL K H p ys ∧ ∀ l, H l = none → NewT H l ys Q) ∨ (SqT K H p ys ∧ Q (.ref p) H))
theorem cr_tupOfN : CallR X (.type "tuple") (rTupOfN X.K) := by
  intro pins s σ H xs us Q I r ⟨p, ys, e, h⟩
  subst e
  obtain ⟨u, rfl, rx⟩ := vals1 r
  cases rx
  rcases h with ⟨hq, q⟩ | ⟨hq, q⟩
  · obtain ⟨its, rv, pl, hz⟩ := I.list hq
    exact call_tuple_list pl.isList (fun h' kp => laidT (s := s) (h' := h') (tk := s.toks) (I.kept (t' := s.toks) kp) rv hz q) (by have := rv.length; simp only [List.size_toArray] <;> omega)
  · obtain ⟨its, _, pl, _⟩ := I.tuple hq
    exact call_tuple_same pl ⟨.ref p,
          H, I, rfl, q⟩
/-- t + u -/
def rCatN (K : PySem.W.Frag) : R2 := fun x y H Q => ∃ a b xs ys, x = .ref a ∧ y = .ref b ∧ SqT K H a xs ∧ SqT K H b ys ∧ xs.length + ys.length ≤ sizeLine ∧
  (xs = [] → Q (.ref b) H) ∧ (xs ≠ [] → ys = [] → Q (.ref a) H) ∧ (xs ≠ [] → ys ≠ [] → ∀ p, H p = none → NewT H p (xs ++ ys) Q)
theorem op_catN : OpR X (binaryOp .Add) (rCatN X.K) := by
  intro pins s σ H x y v u Q I rx ry ⟨a, b, xs, ys, ex, ey, ha, hb, hz, q0, q1, q2⟩
  subst ex ey
  cases rx
  cases ry
  obtain ⟨its, r1, p1, _⟩ := I.tuple ha
  obtain ⟨its2, r2, p2, _⟩ := I.tuple hb
  by_cases c : xs = []
  · subst c
    cases r1
    exact cat_tup0 p1 p2 ⟨.ref b,
          H, I, rfl, q0 rfl⟩
  · refine HT.cat_tup p1 p2 (fun z => c (r1.nil_iff.mp z)) (fun z => ⟨.ref a, H, I, rfl, q1 c (r2.nil_iff.mp z)⟩) (fun z => ?_) (by rw [← r1.length, ← r2.length]; exact hz)
    exact laidT (s := s) (h' := s.heap) (tk := s.toks) I (r1.append r2) (by rw [List.length_append]; exact hz) (q2 c fun w => z (r2.nil_iff.mpr w))
/-- t[i:j] -/
def rSlN (K : PySem.W.Frag) : V → Option Int → Option Int → Hp → VK → Prop := fun x lo hi H Q => ∃ a xs, x = .ref a ∧ SqT K H a xs ∧
  (HT.sIx xs.length 0 lo = 0 ∧ HT.sIx xs.length xs.length hi = xs.length → Q (.ref a) H) ∧ (¬ (HT.sIx xs.length 0 lo = 0 ∧ HT.sIx xs.length xs.length hi = xs.length) → ∀ p, H p = none → NewT H p (cutV xs lo hi) Q)
theorem sl_tupN : SlR X (rSlN X.K) := by
  intro pins s σ H x v vl vu lo hi sl Q I rx hs pl pu ⟨a, xs, ex, hx, q1, q2⟩
  subst ex
  cases rx
  obtain ⟨its, r, ht, hz⟩ := I.tuple hx
  have len : its.toArray.size = xs.length := by rw [List.size_toArray]; exact r.length.symm
  refine ⟨"tuple", _,
        PyProof.Rows.slot_tuple_getitem.lookup, ht.typeIs, ?_⟩
  by_cases c : HT.sIx xs.length 0 lo = 0 ∧ HT.sIx xs.length xs.length hi = xs.length
  · exact getItem_tuple_whole ht hs pl pu (by rw [len]; exact c) ⟨.ref a, H, I, rfl, q1 c⟩
  · refine HT.getItem_tuple_cut ht hs pl pu (by rw [len]; exact c) ?_ (by rw [len]; exact hz)
    rw [len]
    exact laidT (s := s) (h' := s.heap) (tk := s.toks) I ((r.drop (HT.sIx xs.length 0 lo)).take (HT.sIx xs.length xs.length hi - HT.sIx xs.length 0 lo)) (Nat.le_trans (cutV_length xs lo hi) hz) (q2 c)
end
end MU

namespace MU
open PySem PySem.Spec L2
abbrev PD := PyData
/-! ## heaps that grow -/
theorem sqt_up {K : PySem.W.Frag} {H H' : Hp} {a : Addr} {xs : List V} (e : Same H H') (h : SqT K H a xs) : SqT K H' a xs := by
  rcases h with (h | ⟨o, h⟩) | h
  · exact .inl (.inl (e _ _ h))
  · exact .inl (.inr ⟨o, e _ _ h⟩)
  · exact .inr h
mutual
theorem dp_up {K : PySem.W.Frag} {H H' : Hp} (e : Same H H') : ∀ (d : PD) (v : V), Dp K H v d → Dp K H' v d
  | .none, _, h => by cases h; exact .non
  | .bool b, _, h => by cases h; exact .bl b
  | .int i, _, h => by cases h; exact .int i
  | .str x, _, h => by cases h; exact .str x
  | .list ds, _, h => by
    cases h with
    | lst hs ha => exact .lst (e.seq hs) (da_up e ds _ ha)
  | .tuple ds, _, h => by
    cases h with
    | tup hs ha => exact .tup (sqt_up e hs) (da_up e ds _ ha)
  | .dict _, _, h => by cases h
theorem da_up {K : PySem.W.Frag} {H H' : Hp} (e : Same H H') : ∀ (ds : List PD) (vs : List V), DpAll K H vs ds → DpAll K H' vs ds
  | [], _, h => by cases h; exact .nil
  | d :: ds, _, h => by
    cases h with
    | cons h1 h2 => exact .cons (dp_up e d _ h1) (da_up e ds _ h2)
end
theorem da_len {K : PySem.W.Frag} {H : Hp} : ∀ {vs : List V} {ds : List PD}, DpAll K H vs ds → vs.length = ds.length
  | _, _, .nil => rfl
  | _, _, .cons _ t => by rw [List.length_cons, List.length_cons, da_len t]
theorem da_get {K : PySem.W.Frag} {H : Hp} : ∀ {vs : List V} {ds : List PD} {i : Nat} {d : PD}, DpAll K H vs ds → ds[i]? = some d → ∃ v, vs[i]? = some v ∧ Dp K H v d
  | _, _, _, _, .nil, e => by simp at e
  | _, _, 0, _, .cons r _, e => ⟨_, rfl, Option.some.inj e ▸ r⟩
  | _, _, i + 1, _, .cons _ t, e => by
    obtain ⟨v, h1, h2⟩ := da_get (i := i) t (by simpa using e)
    exact ⟨v, by simpa using h1, h2⟩
theorem da_getV {K : PySem.W.Frag} {H : Hp} : ∀ {vs : List V} {ds : List PD} {i : Nat} {v : V}, DpAll K H vs ds → vs[i]? = some v → ∃ d, ds[i]? = some d ∧ Dp K H v d
  | _, _, _, _, .nil, e => by simp at e
  | _, _, 0, _, .cons r _, e => ⟨_, rfl, Option.some.inj e ▸ r⟩
  | _, _, i + 1, _, .cons _ t, e => by
    obtain ⟨v, h1, h2⟩ := da_getV (i := i) t (by simpa using e)
    exact ⟨v, by simpa using h1, h2⟩
theorem da_app {K : PySem.W.Frag} {H : Hp} : ∀ {vs ws : List V} {ds es : List PD}, DpAll K H vs ds → DpAll K H ws es → DpAll K H (vs ++ ws) (ds ++ es)
  | _, _, _, _, .nil, s => s
  | _, _, _, _, .cons r t, s => .cons r (da_app t s)
theorem da_set {K : PySem.W.Frag} {H : Hp} {v : V} {d : PD} (r : Dp K H v d) : ∀ {vs : List V} {ds : List PD} (i : Nat), DpAll K H vs ds → DpAll K H (vs.set i v) (ds.set i d)
  | _, _, _, .nil => .nil
  | _, _, 0, .cons _ t => .cons r t
  | _, _, i + 1, .cons q t => .cons q (da_set r i t)
theorem da_take {K : PySem.W.Frag} {H : Hp} : ∀ {vs : List V} {ds : List PD} (n : Nat), DpAll K H vs ds → DpAll K H (vs.take n) (ds.take n)
  | _, _, 0, _ => .nil
  | _, _, _ + 1, .nil => .nil
  | _, _, n + 1, .cons r t => .cons r (da_take n t)
theorem da_drop {K : PySem.W.Frag} {H : Hp} : ∀ {vs : List V} {ds : List PD} (n : Nat), DpAll K H vs ds → DpAll K H (vs.drop n) (ds.drop n)
  | _, _, 0, r => r
  | _, _, _ + 1, .nil => .nil
  | _, _, n + 1, .cons _ t => da_drop n t
theorem da_rev {K : PySem.W.Frag} {H : Hp} : ∀ {vs : List V} {ds : List PD}, DpAll K H vs ds → DpAll K H vs.reverse ds.reverse
  | _, _, .nil => .nil
  | _, _, .cons r t => by
    rw [List.reverse_cons,
          List.reverse_cons]
    exact da_app (da_rev t) (.cons r .nil)
theorem da_erase {K : PySem.W.Frag} {H : Hp} : ∀ {vs : List V} {ds : List PD} (i : Nat), DpAll K H vs ds → DpAll K H (vs.eraseIdx i) (ds.eraseIdx i)
  | _, _, _, .nil => .nil
  | _, _, 0, .cons _ t => t
  | _, _, i + 1, .cons q t => .cons q (da_erase i t)
/-- the value of a datum that lies in no heap -/
def scV : PD → Option V
  | .none => some .non
  | .bool b => some (.bl b)
  | .int i => some (.int i)
  | .str x => some (.str x)
  | _ => none
theorem dp_sc {K : PySem.W.Frag} {H H' : Hp} {v : V} {d : PD} (h : Dp K H v d) (s : (scV d).isSome = true) : Dp K H' v d := by
  cases h with
  | non => exact .non
  | bl b => exact .bl b
  | int i => exact .int i
  | str x => exact .str x
  | lst _ _ => cases s
  | tup _ _ => cases s
theorem da_sc {K : PySem.W.Frag} {H H' : Hp} : ∀ {vs : List V} {ds : List PD}, DpAll K H vs ds → (∀ d ∈ ds, (scV d).isSome = true) → DpAll K H' vs ds
  | _, _, .nil, _ => .nil
  | _, _, .cons r t, s => .cons (dp_sc r (s _ List.mem_cons_self)) (da_sc t fun d h => s d (List.mem_cons_of_mem _ h))
theorem dp_int {K : PySem.W.Frag} {H : Hp} {v : V} {i : Int} (h : Dp K H v (.int i)) : v = .int i := by cases h; rfl
theorem dp_bool {K : PySem.W.Frag} {H : Hp} {v : V} {i : Bool} (h : Dp K H v (.bool i)) : v = .bl i := by cases h; rfl
theorem dp_none {K : PySem.W.Frag} {H : Hp} {v : V} (h : Dp K H v .none) : v = .non := by cases h; rfl
theorem dp_list {K : PySem.W.Frag} {H : Hp} {v : V} {ds : List PD} (h : Dp K H v (.list ds)) : ∃ a xs, v = .ref a ∧ SqL K H a xs ∧ DpAll K H xs ds := by
  cases h with
  | lst h1 h2 => exact ⟨_, _, rfl, h1, h2⟩
theorem dp_tuple {K : PySem.W.Frag} {H : Hp} {v : V} {ds : List PD} (h : Dp K H v (.tuple ds)) : ∃ a xs, v = .ref a ∧ SqT K H a xs ∧ DpAll K H xs ds := by
  cases h with
  | tup h1 h2 => exact ⟨_, _, rfl, h1, h2⟩

theorem ok_seto {w : World} {p : Addr} {S : Int → Bool} {n : Nat} : OkO (SetO w p S n) := ⟨fun _ z => (by cases z), fun _ _ z => (by cases z)⟩
/-- from (F, H) to (F2, H2): F what never changes any more, H the whole; the addresses of m may change -/
structure Stp (m : Addr → Prop) (F H F2 H2 : Hp) : Prop where
  ff : Same F F2
  fh : Same F2 H2
  hh : ∀ a o, ¬ m a → H a = some o → H2 a = some o
  nj : ∀ a, F a = none → H a ≠ none → F2 a = none
  hn : ∀ a, H a ≠ none → H2 a ≠ none
  nd : NoD H → NoD H2
abbrev m0 : Addr → Prop := fun _ => False
theorem Stp.refl {m : Addr → Prop} {F H : Hp} (h : Same F H) : Stp m F H F H := ⟨Same.refl F, h, fun _ _ _ e => e, fun _ e _ => e, fun _ e => e, id⟩
theorem Stp.trans {m : Addr → Prop} {F H F1 H1 F2 H2 : Hp} (a : Stp m F H F1 H1) (b : Stp m F1 H1 F2 H2) : Stp m F H F2 H2 :=
  ⟨a.ff.trans b.ff, b.fh, fun c o n e => b.hh c o n (a.hh c o n e), fun c e n => b.nj c (a.nj c e n) (a.hn c n), fun c n => b.hn c (a.hn c n), fun n => b.nd (a.nd n)⟩
theorem Stp.hs {F H F2 H2 : Hp} (a : Stp m0 F H F2 H2) : Same H H2 := fun c o e => a.hh c o (fun z => z) e
theorem Stp.wk {m : Addr → Prop} {F H F2 H2 : Hp} (a : Stp m0 F H F2 H2) : Stp m F H F2 H2 := ⟨a.ff, a.fh, fun c o _ e => a.hs c o e, a.nj, a.hn, a.nd⟩
theorem same_new {H : Hp} {p : Addr} {o : HO} (h : H p = none) : Same H (upd H p o) := fun b x e => by
  rw [upd_ne (ne_of_none e h)]
  exact e
theorem up_some {H : Hp} {p a : Addr} {o : HO} (h : H a ≠ none) : upd H p o a ≠ none := by
  by_cases e : a = p
  · subst e; rw [upd_same]; exact fun z => nomatch z
  · rw [upd_ne e]; exact h
/-- a new object, kept for ever -/
theorem Stp.frz {m : Addr → Prop} {F H : Hp} {p : Addr} {o : HO} (h : Same F H) (hp : H p = none) (k : OkO o) : Stp m F H (upd F p o) (upd H p o) := by
  have fp : F p = none := h.free hp
  refine ⟨same_new fp, fun b x e => ?_, fun a u _ e => same_new hp a u e, fun a e n => ?_, fun a n => up_some n, fun n => n.put k⟩
  · by_cases q : b = p
    · subst q; rw [upd_same] at e ⊢; exact e
    · rw [upd_ne q] at e ⊢; exact h b x e
  · rw [upd_ne (fun z => n (by rw [z]; exact hp))]
    exact e
/-- a new object that may still change -/
theorem Stp.mk1 {m : Addr → Prop} {F H : Hp} {p : Addr} {o : HO} (h : Same F H) (hp : H p = none) (k : OkO o := by first | exact ok_lst | exact ok_seto) : Stp m F H F (upd H p o) :=
  ⟨Same.refl F, h.trans (same_new hp), fun a u _ e => same_new hp a u e, fun _ e _ => e, fun a n => up_some n, fun n => n.put k⟩
theorem Stp.same {m : Addr → Prop} {F H H2 : Hp} (h : Same F H) (k : Same H H2) (n : NoD H → NoD H2) : Stp m F H F H2 := ⟨Same.refl F, h.trans k, fun a u _ e => k a u e, fun _ e _ => e, fun a n z => n (k.free z), n⟩

/-! ## slots told by data -/
inductive Slot where
  | emp
  | d (x : PD)
  | own (b : Bool) (xs : List PD)
  | gen (b : Bool) (n : Int)
  | set (S : Int → Bool) (n : Nat)
  | ob (f : Addr → HO)
def Slot.mt : Slot → Bool
  | .emp => false
  | .d _ => false
  | _ => true
/-- made since the start -/
def Slot.lc : Slot → Bool
  | .own b _ => b
  | .set _ _ => true
  | .ob _ => true
  | .gen b _ => b
  | _ => false
/-- a drawing list -/
def GenAt (H : Hp) (p : Addr) (n : Int) : Prop := ∃ a s c : Int, H p = some (.lst [.int a, .int s, .int c]) ∧ 0 ≤ a ∧ a < 10 ^ 600 ∧ 0 ≤ s ∧ s < 2147483647 ∧ 0 ≤ c ∧ c ≤ n
def SlotOk (K : PySem.W.Frag) (w : World) (F H : Hp) (o : Option V) : Slot → Prop
  | .emp => True
  | .d x => ∃ v, o = some v ∧ Dp K F v x
  | .own _ xs => ∃ p vs, o = some (.ref p) ∧ F p = none ∧ H p = some (.lst vs) ∧ DpAll K F vs xs
  | .gen _ n => ∃ p, o = some (.ref p) ∧ F p = none ∧ GenAt H p n
  | .set S n => ∃ p, o = some (.ref p) ∧ F p = none ∧ H p = some (SetO w p S n)
  | .ob f => ∃ p, o = some (.ref p) ∧ F p = none ∧ H p = some (f p)
structure Sig (K : PySem.W.Frag) (w : World) (F0 H0 : Hp) (m : Addr → Prop) (F H : Hp) (σ : St) (δ : List Slot) : Prop where
  st : Stp m F0 H0 F H
  len : σ.length = δ.length
  ok : ∀ (i : Nat) (s : Slot), δ[i]? = some s → SlotOk K w F H ((σ[i]?).join) s
  dis : ∀ (i j : Nat) (si sj : Slot) (v : V), i ≠ j → δ[i]? = some si → δ[j]? = some sj → si.mt = true → sj.mt = true → σ[i]? = some (some v) → σ[j]? ≠ some (some v)
  fr : ∀ (i : Nat) (s : Slot) (p : Addr), δ[i]? = some s → s.mt = true → σ[i]? = some (some (.ref p)) → (s.lc = true → H0 p = none) ∧ (s.lc = false → m p)
  n0 : NoD H0
structure Fz (F H : Hp) : Prop where
  s : Same F H
  n : NoD H
section
variable {K : PySem.W.Frag} {w : World} {F0 H0 F H F2 H2 : Hp} {m : Addr → Prop} {σ : St} {δ : List Slot}
theorem Sig.fh (S : Sig K w F0 H0 m F H σ δ) : Same F H := S.st.fh
theorem Sig.fz (S : Sig K w F0 H0 m F H σ δ) : Fz F H := ⟨S.st.fh, S.st.nd S.n0⟩
theorem slot_up {o : Option V} {s : Slot} (h : SlotOk K w F H o s) (e : Stp m0 F H F2 H2) : SlotOk K w F2 H2 o s := by
  cases s with
  | emp => exact h
  | d x =>
    obtain ⟨v, h1, h2⟩ := h
    exact ⟨v, h1, dp_up e.ff _ _ h2⟩
  | own b xs =>
    obtain ⟨p, vs, h1, h2, h3, h4⟩ := h
    exact ⟨p, vs, h1, e.nj p h2 (by rw [h3]; exact fun z => nomatch z), e.hs _ _ h3, da_up e.ff _ _ h4⟩
  | gen b' n =>
    obtain ⟨p, h1, h2, a, s, c, h3, h4⟩ := h
    exact ⟨p, h1, e.nj p h2 (by rw [h3]; exact fun z => nomatch z), a, s, c, e.hs _ _ h3, h4⟩
  | set S n =>
    obtain ⟨p, h1, h2, h3⟩ := h
    exact ⟨p, h1, e.nj p h2 (by rw [h3]; exact fun z => nomatch z), e.hs _ _ h3⟩
  | ob o9 =>
    obtain ⟨p, h1, h2, h3⟩ := h
    exact ⟨p, h1, e.nj p h2 (by rw [h3]; exact fun z => nomatch z), e.hs _ _ h3⟩
theorem Sig.up (S : Sig K w F0 H0 m F H σ δ) (e : Stp m0 F H F2 H2) : Sig K w F0 H0 m F2 H2 σ δ :=
  ⟨S.st.trans e.wk, S.len, fun i s h => slot_up (S.ok i s h) e, S.dis, S.fr, S.n0⟩
theorem Sig.var (S : Sig K w F0 H0 m F H σ δ) {i : Nat} {x : PD} (h : δ[i]? = some (.d x)) : ∃ v, σ[i]? = some (some v) ∧ Dp K F v x := by
  obtain ⟨v, h1, h2⟩ := S.ok i _ h
  refine ⟨v, ?_, h2⟩
  cases e : σ[i]? with
  | none => rw [e] at h1; cases h1
  | some o => rw [e] at h1; exact congrArg some h1
theorem Sig.ref (S : Sig K w F0 H0 m F H σ δ) {i : Nat} {s : Slot} (h : δ[i]? = some s) (hm : s.mt = true) : ∃ p, σ[i]? = some (some (.ref p)) ∧ F p = none := by
  have q := S.ok i s h
  have r : ∃ p, (σ[i]?).join = some (.ref p) ∧ F p = none := by
    cases s with
    | emp => cases hm
    | d x => cases hm
    | own b xs => obtain ⟨p, vs, h1, h2, _⟩ := q; exact ⟨p, h1, h2⟩
    | gen b' n => obtain ⟨p, h1, h2, _⟩ := q; exact ⟨p, h1, h2⟩
    | set S n => obtain ⟨p, h1, h2, _⟩ := q; exact ⟨p, h1, h2⟩
    | ob o9 => obtain ⟨p, h1, h2, _⟩ := q; exact ⟨p, h1, h2⟩
  obtain ⟨p, h1, h2⟩ := r
  refine ⟨p, ?_, h2⟩
  cases e : σ[i]? with
  | none => rw [e] at h1; cases h1
  | some o => rw [e] at h1; exact congrArg some h1
theorem Sig.setD (S : Sig K w F0 H0 m F H σ δ) (i : Nat) {v : V} {x : PD} (h : Dp K F v x) : Sig K w F0 H0 m F H (σ.set i (some v)) (δ.set i (.d x)) := by
  refine ⟨S.st, by rw [List.length_set, List.length_set, S.len], fun j s e => ?_, fun j k si sj u jk ej ek mj mk => ?_, fun j s p e ms => ?_, S.n0⟩
  · by_cases z : i = j
    · subst z
      by_cases q : i < δ.length
      · rw [List.getElem?_set_self q] at e
        rw [List.getElem?_set_self (by rw [S.len]; exact q)]
        cases e
        exact ⟨v, rfl, h⟩
      · rw [List.getElem?_eq_none (by rw [List.length_set]; omega)] at e
        cases e
    · rw [List.getElem?_set_ne z] at e
      rw [List.getElem?_set_ne z]
      exact S.ok j s e
  · have nj : i ≠ j := fun z => by
      subst z
      by_cases q : i < δ.length
      · rw [List.getElem?_set_self q] at ej; cases ej; cases mj
      · rw [List.getElem?_eq_none (by rw [List.length_set]; omega)] at ej; cases ej
    have nk : i ≠ k := fun z => by
      subst z
      by_cases q : i < δ.length
      · rw [List.getElem?_set_self q] at ek; cases ek; cases mk
      · rw [List.getElem?_eq_none (by rw [List.length_set]; omega)] at ek; cases ek
    rw [List.getElem?_set_ne nj] at ej
    rw [List.getElem?_set_ne nk] at ek
    rw [List.getElem?_set_ne nj, List.getElem?_set_ne nk]
    exact S.dis j k si sj u jk ej ek mj mk
  · have nj : i ≠ j := fun z => by
      subst z
      by_cases q : i < δ.length
      · rw [List.getElem?_set_self q] at e; cases e; cases ms
      · rw [List.getElem?_eq_none (by rw [List.length_set]; omega)] at e; cases e
    rw [List.getElem?_set_ne nj] at e
    rw [List.getElem?_set_ne nj]
    exact S.fr j s p e ms
/-- a slot that is forgotten -/
theorem Sig.drop (S : Sig K w F0 H0 m F H σ δ) (i : Nat) (o : Option V) : Sig K w F0 H0 m F H (σ.set i o) (δ.set i .emp) := by
  refine ⟨S.st, by rw [List.length_set, List.length_set, S.len], fun j s e => ?_, fun j k si sj u jk ej ek mj mk => ?_, fun j s p e ms => ?_, S.n0⟩
  · by_cases z : i = j
    · subst z
      by_cases q : i < δ.length
      · rw [List.getElem?_set_self q] at e
        cases e
        exact trivial
      · rw [List.getElem?_eq_none (by rw [List.length_set]; omega)] at e
        cases e
    · rw [List.getElem?_set_ne z] at e
      rw [List.getElem?_set_ne z]
      exact S.ok j s e
  · have nj : i ≠ j := fun z => by
      subst z
      by_cases q : i < δ.length
      · rw [List.getElem?_set_self q] at ej; cases ej; cases mj
      · rw [List.getElem?_eq_none (by rw [List.length_set]; omega)] at ej; cases ej
    have nk : i ≠ k := fun z => by
      subst z
      by_cases q : i < δ.length
      · rw [List.getElem?_set_self q] at ek; cases ek; cases mk
      · rw [List.getElem?_eq_none (by rw [List.length_set]; omega)] at ek; cases ek
    rw [List.getElem?_set_ne nj] at ej
    rw [List.getElem?_set_ne nk] at ek
    rw [List.getElem?_set_ne nj, List.getElem?_set_ne nk]
    exact S.dis j k si sj u jk ej ek mj mk
  · have nj : i ≠ j := fun z => by
      subst z
      by_cases q : i < δ.length
      · rw [List.getElem?_set_self q] at e; cases e; cases ms
      · rw [List.getElem?_eq_none (by rw [List.length_set]; omega)] at e; cases e
    rw [List.getElem?_set_ne nj] at e
    rw [List.getElem?_set_ne nj]
    exact S.fr j s p e ms
/-- a slot that gets a changeable object of its own, new since the start and in no other slot -/
theorem Sig.setM (S : Sig K w F0 H0 m F H σ δ) (i : Nat) {p : Addr} {s : Slot} (h : SlotOk K w F H (some (.ref p)) s) (hm : s.mt = true) (h0 : (s.lc = true → H0 p = none) ∧ (s.lc = false → m p))
    (hx : ∀ (j : Nat) (sj : Slot), i ≠ j → δ[j]? = some sj → sj.mt = true → σ[j]? ≠ some (some (.ref p))) : Sig K w F0 H0 m F H (σ.set i (some (.ref p))) (δ.set i s) := by
  have self : ∀ (j : Nat) (sj : Slot), i = j → (δ.set i s)[j]? = some sj → i < δ.length ∧ sj = s ∧ (σ.set i (some (.ref p)))[j]? = some (some (.ref p)) := fun j sj z e => by
    subst z
    by_cases q : i < δ.length
    · rw [List.getElem?_set_self q] at e
      cases e
      exact ⟨q, rfl, List.getElem?_set_self (by rw [S.len]; exact q)⟩
    · rw [List.getElem?_eq_none (by rw [List.length_set]; omega)] at e
      cases e
  refine ⟨S.st, by rw [List.length_set, List.length_set, S.len], fun j sj e => ?_, fun j k si sj u jk ej ek mj mk eu => ?_, fun j sj q e ms eq => ?_, S.n0⟩
  · by_cases z : i = j
    · obtain ⟨_, rfl, r⟩ := self j sj z e
      rw [r]
      exact h
    · rw [List.getElem?_set_ne z] at e ⊢
      exact S.ok j sj e
  · by_cases z : i = j
    · obtain ⟨_, rfl, r⟩ := self j si z ej
      rw [r] at eu
      cases eu
      have zk : i ≠ k := fun q => jk (z.symm.trans q)
      rw [List.getElem?_set_ne zk] at ek ⊢
      exact hx k sj zk ek mk
    · rw [List.getElem?_set_ne z] at ej eu
      by_cases zk : i = k
      · obtain ⟨_, rfl, r⟩ := self k sj zk ek
        rw [r]
        intro q
        cases q
        exact hx j si z ej mj eu
      · rw [List.getElem?_set_ne zk] at ek ⊢
        exact S.dis j k si sj u jk ej ek mj mk eu
  · by_cases z : i = j
    · obtain ⟨_, rfl, r⟩ := self j sj z e
      rw [r] at eq
      cases eq
      exact h0
    · rw [List.getElem?_set_ne z] at e eq
      exact S.fr j sj q e ms eq
/-- the object of a changeable slot changes -/
theorem Sig.chg (S : Sig K w F0 H0 m F H σ δ) {i : Nat} {p : Addr} {s s' : Slot} {o : HO} (hi : δ[i]? = some s) (hm : s.mt = true) (hp : σ[i]? = some (some (.ref p))) (hF : F p = none) (hH : H p ≠ none)
    (h : SlotOk K w F (upd H p o) (some (.ref p)) s') (hm' : s'.mt = true) (hl : s'.lc = s.lc) (ko : OkO o := by first | exact ok_lst | exact ok_seto) : Sig K w F0 H0 m F (upd H p o) σ (δ.set i s') := by
  have hlt : i < δ.length := (List.getElem?_eq_some_iff.mp hi).1
  have fr : m p ∨ H0 p = none := by
    cases q : s.lc with
    | true => exact .inr ((S.fr i s p hi hm hp).1 q)
    | false => exact .inl ((S.fr i s p hi hm hp).2 q)
  refine ⟨⟨S.st.ff, fun b x e => ?_, fun a u na e => ?_, S.st.nj, fun a n => up_some (S.st.hn a n), fun n => (S.st.nd n).put ko⟩, by rw [List.length_set, S.len], fun j sj e => ?_, fun j k si sj u jk ej ek mj mk eu => ?_, fun j sj q e ms eq => ?_, S.n0⟩
  · rw [upd_ne (ne_of_none e hF)]
    exact S.fh b x e
  · have nap : a ≠ p := fun z => by
      subst z
      rcases fr with f | f
      · exact na f
      · rw [f] at e; cases e
    rw [upd_ne nap]
    exact S.st.hh a u na e
  · by_cases z : i = j
    · subst z
      rw [List.getElem?_set_self hlt] at e
      cases e
      rw [hp]
      exact h
    · rw [List.getElem?_set_ne z] at e
      have q := S.ok j sj e
      cases sj with
      | emp => exact trivial
      | d x => exact q
      | own b xs =>
        obtain ⟨p', vs, h1, h2, h3, h4⟩ := q
        have ne : p' ≠ p := fun y => by
          subst y
          refine S.dis i j s _ _ z hi e hm rfl hp ?_
          cases e1 : σ[j]? with
          | none => rw [e1] at h1; cases h1
          | some o => rw [e1] at h1; exact congrArg some h1
        exact ⟨p', vs, h1, h2, by rw [upd_ne ne]; exact h3, h4⟩
      | gen b' n =>
        obtain ⟨p', h1, h2, a, b, c, h3, h4⟩ := q
        have ne : p' ≠ p := fun y => by
          subst y
          refine S.dis i j s _ _ z hi e hm rfl hp ?_
          cases e1 : σ[j]? with
          | none => rw [e1] at h1; cases h1
          | some o => rw [e1] at h1; exact congrArg some h1
        exact ⟨p', h1, h2, a, b, c, by rw [upd_ne ne]; exact h3, h4⟩
      | set S' n =>
        obtain ⟨p', h1, h2, h3⟩ := q
        have ne : p' ≠ p := fun y => by
          subst y
          refine S.dis i j s _ _ z hi e hm rfl hp ?_
          cases e1 : σ[j]? with
          | none => rw [e1] at h1; cases h1
          | some o => rw [e1] at h1; exact congrArg some h1
        exact ⟨p', h1, h2, by rw [upd_ne ne]; exact h3⟩
      | ob o9 =>
        obtain ⟨p', h1, h2, h3⟩ := q
        have ne : p' ≠ p := fun y => by
          subst y
          refine S.dis i j s _ _ z hi e hm rfl hp ?_
          cases e1 : σ[j]? with
          | none => rw [e1] at h1; cases h1
          | some o => rw [e1] at h1; exact congrArg some h1
        exact ⟨p', h1, h2, by rw [upd_ne ne]; exact h3⟩
  · have mtx : ∀ (l : Nat) (sl : Slot), (δ.set i s')[l]? = some sl → sl.mt = true → ∃ s2, δ[l]? = some s2 ∧ s2.mt = true := fun l sl e1 e2 => by
      by_cases z : i = l
      · subst z; exact ⟨s, hi, hm⟩
      · rw [List.getElem?_set_ne z] at e1; exact ⟨sl, e1, e2⟩
    obtain ⟨s1, a1, b1⟩ := mtx j si ej mj
    obtain ⟨s2, a2, b2⟩ := mtx k sj ek mk
    exact S.dis j k s1 s2 u jk a1 a2 b1 b2 eu
  · by_cases z : i = j
    · subst z
      rw [List.getElem?_set_self hlt] at e
      cases e
      exact ⟨fun y => (S.fr i s q hi hm eq).1 (hl.symm.trans y), fun y => (S.fr i s q hi hm eq).2 (hl.symm.trans y)⟩
    · rw [List.getElem?_set_ne z] at e
      exact S.fr j sj q e ms eq
/-- wiped slots -/
def wipeD (δ : List Slot) : List Nat → List Slot
  | [] => δ
  | v :: vs => (wipeD δ vs).set v .emp
theorem Sig.wipe (S : Sig K w F0 H0 m F H σ δ) : ∀ vs : List Nat, Sig K w F0 H0 m F H (L2.wipe σ vs) (wipeD δ vs)
  | [] => S
  | v :: vs => (S.wipe vs).drop v none
end
end MU

namespace MU
open PySem PySem.Spec L2
/-! ## what an expression is worth, by data -/
section
variable (K : PySem.W.Frag) (w : World)
/-- a value that may be kept -/
def EvD (te : TE) (δ : List Slot) (d : PD) : Prop := ∀ F0 H0 m F H σ, Sig K w F0 H0 m F H σ δ → ∀ Q : VK, (∀ v F2 H2, Stp m0 F H F2 H2 → Dp K F2 v d → Q v H2) → te σ H Q
/-- a value that may be read -/
def RdD (te : TE) (δ : List Slot) (d : PD) : Prop := ∀ F0 H0 m F H σ, Sig K w F0 H0 m F H σ δ → ∀ Q : VK, (∀ v F2 H2, Stp m0 F H F2 H2 → Dp K H2 v d → Q v H2) → te σ H Q
/-- a new list -/
def EvO (te : TE) (δ : List Slot) (ds : List PD) : Prop := ∀ F0 H0 m F H σ, Sig K w F0 H0 m F H σ δ → ∀ Q : VK,
  (∀ p vs F2 H2, Stp m0 F H F2 H2 → F2 p = none → H p = none → H2 p = some (.lst vs) → DpAll K F2 vs ds → Q (.ref p) H2) → te σ H Q
def TsB (tt : TT) (δ : List Slot) (b : Bool) : Prop := ∀ F0 H0 m F H σ, Sig K w F0 H0 m F H σ δ → ∀ Q : Bool → Hp → Prop, (∀ F2 H2, Stp m0 F H F2 H2 → Q b H2) → tt σ H Q
def EvA (ta : TA) (δ : List Slot) (ds : List PD) : Prop := ∀ F0 H0 m F H σ, Sig K w F0 H0 m F H σ δ → ∀ Q : List V → Hp → Prop, (∀ vs F2 H2, Stp m0 F H F2 H2 → DpAll K F2 vs ds → Q vs H2) → ta σ H Q
def RdA (ta : TA) (δ : List Slot) (ds : List PD) : Prop := ∀ F0 H0 m F H σ, Sig K w F0 H0 m F H σ δ → ∀ Q : List V → Hp → Prop, (∀ vs F2 H2, Stp m0 F H F2 H2 → DpAll K H2 vs ds → Q vs H2) → ta σ H Q
end
section
variable {K : PySem.W.Frag} {w : World} {δ : List Slot} {te ta tb : TE} {t u : TT} {d x y : PD} {ds es : List PD} {r : R2}
theorem EvD.rd (h : EvD K w te δ d) : RdD K w te δ d := fun _ _ _ _ _ _ S Q q => h _ _ _ _ _ _ S Q fun v F2 H2 s e => q v F2 H2 s (dp_up s.fh _ _ e)
theorem EvO.ev (h : EvO K w te δ ds) : EvD K w te δ (.list ds) := fun _ _ _ F H _ S Q q => h _ _ _ _ _ _ S Q fun p vs F2 H2 s f n e a =>
  q (.ref p) (upd F2 p (.lst vs)) H2 ⟨s.ff.trans (same_new f), fun b o eb => by
      by_cases z : b = p
      · subst z; rw [upd_same] at eb; cases eb; exact e
      · rw [upd_ne z] at eb; exact s.fh b o eb,
    s.hh, fun b eb nb => by
      rw [upd_ne (fun z => nb (by rw [z]; exact n))]
      exact s.nj b eb nb, s.hn, s.nd⟩ (.lst (.inl (.inl upd_same)) (da_up (same_new f) _ _ a))
theorem EvO.rd (h : EvO K w te δ ds) : RdD K w te δ (.list ds) := h.ev.rd
theorem RdD.sc (h : RdD K w te δ d) (s : (scV d).isSome = true := by rfl) : EvD K w te δ d := fun _ _ _ F H _ S Q q => h _ _ _ _ _ _ S Q fun v F2 H2 st e => q v F2 H2 st (dp_sc e s)
theorem EvD.is (h : EvD K w te δ x) (e : x = y) : EvD K w te δ y := e ▸ h
theorem RdD.is (h : RdD K w te δ x) (e : x = y) : RdD K w te δ y := e ▸ h
theorem EvO.is (h : EvO K w te δ ds) (e : ds = es) : EvO K w te δ es := e ▸ h
theorem TsB.is {a b : Bool} (h : TsB K w t δ a) (e : a = b) : TsB K w t δ b := e ▸ h
theorem EvA.rd {tz : TA} (h : EvA K w tz δ ds) : RdA K w tz δ ds := fun _ _ _ _ _ _ S Q q => h _ _ _ _ _ _ S Q fun v F2 H2 s e => q v F2 H2 s (da_up s.fh _ _ e)
/-! names, constants -/
theorem ev_var {i : Nat} (h : δ[i]? = some (.d d)) : EvD K w (tVar i) δ d := fun _ _ _ F H σ S Q q => by
  obtain ⟨v, e, r⟩ := S.var h
  exact ⟨v, e, q v F H (.refl S.fh) r⟩
/-- the name of a list that may change: read -/
theorem rd_own {i : Nat} {b : Bool} (h : δ[i]? = some (.own b ds)) : RdD K w (tVar i) δ (.list ds) := fun _ _ _ F H σ S Q q => by
  obtain ⟨p, e, f⟩ := S.ref h rfl
  obtain ⟨p', vs, h1, h2, h3, h4⟩ := S.ok i _ h
  rw [e] at h1
  have z : p = p' := V.ref.inj (Option.some.inj h1)
  subst z
  exact ⟨_, e, q _ F H (.refl S.fh) (.lst (.inl (.inl h3)) (da_up S.fh _ _ h4))⟩
theorem ev_int {i : Int} : EvD K w (tC (.int i)) δ (.int i) := fun _ _ _ F H _ S Q q => q _ F H (.refl S.fh) (.int i)
theorem ev_bl {b : Bool} : EvD K w (tC (.bl b)) δ (.bool b) := fun _ _ _ F H _ S Q q => q _ F H (.refl S.fh) (.bl b)
theorem ev_non : EvD K w (tC .non) δ .none := fun _ _ _ F H _ S Q q => q _ F H (.refl S.fh) .non
theorem ev_str {z : Str} : EvD K w (tC (.str z)) δ (.str z) := fun _ _ _ F H _ S Q q => q _ F H (.refl S.fh) (.str z)
/-! operators: the answer lies in no heap -/
theorem rd_op2 {z : V} {e : PD} (ha : RdD K w ta δ x) (hb : RdD K w tb δ y) (hz : ∀ H : Hp, Dp K H z e) (hr : ∀ (H : Hp) (v u : V), Dp K H v x → Dp K H u y → ∀ Q : VK, Q z H → r v u H Q) : EvD K w (tOp r ta tb) δ e := fun _ _ _ F H σ S Q q =>
  ha _ _ _ _ _ _ S _ fun v F2 H2 s1 e1 => hb _ _ _ _ _ _ (S.up s1) _ fun u F3 H3 s2 e2 => hr H3 v u (dp_up s2.hs _ _ e1) e2 Q (q z F3 H3 (s1.trans s2) (hz F3))
theorem ev_int2 {g : Int → Int → V} {i j : Int} {e : PD} (ha : RdD K w ta δ (.int i)) (hb : RdD K w tb δ (.int j)) (hz : ∀ H : Hp, Dp K H (g i j) e) : EvD K w (tOp (rI0 g) ta tb) δ e :=
  rd_op2 ha hb hz fun H v u h1 h2 Q q => ⟨i, j, dp_int h1, dp_int h2, q⟩
theorem ev_int2C {C : Int → Int → Prop} {g : Int → Int → V} {i j : Int} {e : PD} (ha : RdD K w ta δ (.int i)) (hb : RdD K w tb δ (.int j)) (hc : C i j) (hz : ∀ H : Hp, Dp K H (g i j) e) : EvD K w (tOp (rI C g) ta tb) δ e :=
  rd_op2 ha hb hz fun H v u h1 h2 Q q => ⟨i, j, dp_int h1, dp_int h2, hc, q⟩
abbrev rAddI : R2 := rI0 fun i j => .int (i + j)
abbrev rSubI : R2 := rI0 fun i j => .int (i - j)
theorem ev_add {i j : Int} (ha : RdD K w ta δ (.int i)) (hb : RdD K w tb δ (.int j)) : EvD K w (tOp rAddI ta tb) δ (.int (i + j)) := ev_int2 ha hb fun H => .int _
theorem ev_sub {i j : Int} (ha : RdD K w ta δ (.int i)) (hb : RdD K w tb δ (.int j)) : EvD K w (tOp rSubI ta tb) δ (.int (i - j)) := ev_int2 ha hb fun H => .int _
theorem ev_mul {i j : Int} (ha : RdD K w ta δ (.int i)) (hb : RdD K w tb δ (.int j)) (hc : CMulX i j) : EvD K w (tOp (rI CMulX fun i j => .int (i * j)) ta tb) δ (.int (i * j)) := ev_int2C ha hb hc fun H => .int _
theorem ev_mod {i j : Int} (ha : RdD K w ta δ (.int i)) (hb : RdD K w tb δ (.int j)) (hc : 0 < j) : EvD K w (tOp (rI (fun _ j => 0 < j) fun i j => .int (i % j)) ta tb) δ (.int (i % j)) := ev_int2C ha hb hc fun H => .int _
theorem ev_div {i j : Int} (ha : RdD K w ta δ (.int i)) (hb : RdD K w tb δ (.int j)) (hc : CDivW i j) : EvD K w (tOp (rI CDivW fun i j => .int (i / j)) ta tb) δ (.int (i / j)) := ev_int2C ha hb hc fun H => .int _
theorem ev_pow {i j : Int} (ha : RdD K w ta δ (.int i)) (hb : RdD K w tb δ (.int j)) (hc : CPow i j) : EvD K w (tOp (rI CPow fun i j => .int (i ^ j.toNat)) ta tb) δ (.int (i ^ j.toNat)) := ev_int2C ha hb hc fun H => .int _
theorem ev_neg {i : Int} (ha : RdD K w ta δ (.int i)) : EvD K w (tUn (rU fun i => .int (-i)) ta) δ (.int (-i)) := fun _ _ _ F H σ S Q q =>
  ha _ _ _ _ _ _ S _ fun v F2 H2 s1 e1 => ⟨i, dp_int e1, q _ F2 H2 s1 (.int _)⟩
theorem ev_lt {i j : Int} (ha : RdD K w ta δ (.int i)) (hb : RdD K w tb δ (.int j)) : EvD K w (tOp (rI0 fun i j => .bl (decide (i < j))) ta tb) δ (.bool (decide (i < j))) := ev_int2 ha hb fun H => .bl _
theorem ev_le {i j : Int} (ha : RdD K w ta δ (.int i)) (hb : RdD K w tb δ (.int j)) : EvD K w (tOp (rI0 fun i j => .bl (decide (i ≤ j))) ta tb) δ (.bool (decide (i ≤ j))) := ev_int2 ha hb fun H => .bl _
theorem ev_gt {i j : Int} (ha : RdD K w ta δ (.int i)) (hb : RdD K w tb δ (.int j)) : EvD K w (tOp (rI0 fun i j => .bl (decide (j < i))) ta tb) δ (.bool (decide (j < i))) := ev_int2 ha hb fun H => .bl _
theorem ev_ge {i j : Int} (ha : RdD K w ta δ (.int i)) (hb : RdD K w tb δ (.int j)) : EvD K w (tOp (rI0 fun i j => .bl (decide (j ≤ i))) ta tb) δ (.bool (decide (j ≤ i))) := ev_int2 ha hb fun H => .bl _
theorem ev_eq (ha : RdD K w ta δ x) (hb : RdD K w tb δ y) (hx : SeqAt.shaped x = true) (hy : SeqAt.shaped y = true) : EvD K w (tOp (rEqD K) ta tb) δ (.bool (PyData.eqv x y)) :=
  rd_op2 ha hb (fun H => .bl _) fun H v u h1 h2 Q q => ⟨x, y, h1, h2, hx, hy, q⟩
theorem ev_ne (ha : RdD K w ta δ x) (hb : RdD K w tb δ y) (hx : SeqAt.shaped x = true) (hy : SeqAt.shaped y = true) : EvD K w (tOp (rNeD K) ta tb) δ (.bool (!PyData.eqv x y)) :=
  rd_op2 ha hb (fun H => .bl _) fun H v u h1 h2 Q q => ⟨x, y, h1, h2, hx, hy, q⟩
abbrev rIsN' : R2 := fun x y H Q => y = .non ∧ Q (.bl (decide (x = .non))) H
abbrev rNotN' : R2 := fun x y H Q => y = .non ∧ Q (.bl (!decide (x = .non))) H
def isNon : PD → Bool
  | .none => true
  | _ => false
theorem isNon_v {H : Hp} {v : V} (h : Dp K H v d) : decide (v = .non) = isNon d := by
  cases h with
  | non => rfl
  | bl b => exact decide_eq_false (fun z => nomatch z)
  | int i => exact decide_eq_false (fun z => nomatch z)
  | str i => exact decide_eq_false (fun z => nomatch z)
  | lst _ _ => exact decide_eq_false (fun z => nomatch z)
  | tup _ _ => exact decide_eq_false (fun z => nomatch z)
theorem ev_isN (ha : RdD K w ta δ x) : EvD K w (tOp rIsN' ta (tC .non)) δ (.bool (isNon x)) := fun _ _ _ F H σ S Q q =>
  ha _ _ _ _ _ _ S _ fun v F2 H2 s1 e1 => ⟨rfl, by rw [isNon_v e1]; exact q _ F2 H2 s1 (.bl _)⟩
theorem ev_notN (ha : RdD K w ta δ x) : EvD K w (tOp rNotN' ta (tC .non)) δ (.bool (!isNon x)) := fun _ _ _ F H σ S Q q =>
  ha _ _ _ _ _ _ S _ fun v F2 H2 s1 e1 => ⟨rfl, by rw [isNon_v e1]; exact q _ F2 H2 s1 (.bl _)⟩
/-- a < b < c -/
theorem ev_chain {g g' : Int → Int → Bool} {tc : TE} {i j k : Int} (ha : RdD K w ta δ (.int i)) (hb : RdD K w tb δ (.int j)) (hc : RdD K w tc δ (.int k)) :
    EvD K w (tChain (rI0 fun i j => .bl (g i j)) (rI0 fun i j => .bl (g' i j)) ta tb tc) δ (.bool (g i j && g' j k)) := fun _ _ _ F H σ S Q q =>
  ha _ _ _ _ _ _ S _ fun v F2 H2 s1 e1 => hb _ _ _ _ _ _ (S.up s1) _ fun u F3 H3 s2 e2 => ⟨i, j, dp_int e1, dp_int e2, g i j, rfl, by
    cases e : g i j with
    | true => exact hc _ _ _ _ _ _ ((S.up s1).up s2) _ fun z F4 H4 s3 e3 => ⟨j, k, dp_int e2, dp_int e3, by
        have q' := q (.bl (g i j && g' j k)) F4 H4 ((s1.trans s2).trans s3) (.bl _)
        rw [e, Bool.true_and] at q'
        exact q'⟩
    | false =>
      have q' := q (.bl (g i j && g' j k)) F3 H3 (s1.trans s2) (.bl _)
      rw [e, Bool.false_and] at q'
      exact q'⟩
/-! tests -/
theorem ts_cmp {b : Bool} (h : EvD K w te δ (.bool b)) : TsB K w (tTest te) δ b := fun _ _ _ F H σ S Q q => h _ _ _ _ _ _ S _ fun v F2 H2 s e => ⟨b, dp_bool e, q F2 H2 s⟩
theorem ts_val {b : Bool} (h : EvD K w te δ (.bool b)) : TsB K w (tB te) δ b := fun _ _ _ F H σ S Q q => h _ _ _ _ _ _ S _ fun v F2 H2 s e => ⟨b, dp_bool e, q F2 H2 s⟩
theorem ts_not {b : Bool} (h : TsB K w t δ b) : TsB K w (tNot t) δ (!b) := fun _ _ _ F H σ S Q q => h _ _ _ _ _ _ S _ fun F2 H2 s => q F2 H2 s
theorem ts_and {a b : Bool} (h : TsB K w t δ a) (h2 : a = true → TsB K w u δ b) : TsB K w (tAnd t u) δ (a && b) := fun _ _ _ F H σ S Q q => h _ _ _ _ _ _ S _ fun F2 H2 s => by
  cases a with
  | true => exact h2 rfl _ _ _ _ _ _ (S.up s) _ fun F3 H3 s2 => q F3 H3 (s.trans s2)
  | false => exact q F2 H2 s
theorem ts_or {a b : Bool} (h : TsB K w t δ a) (h2 : a = false → TsB K w u δ b) : TsB K w (tOr t u) δ (a || b) := fun _ _ _ F H σ S Q q => h _ _ _ _ _ _ S _ fun F2 H2 s => by
  cases a with
  | false => exact h2 rfl _ _ _ _ _ _ (S.up s) _ fun F3 H3 s2 => q F3 H3 (s.trans s2)
  | true => exact q F2 H2 s
theorem ev_andV {a b : Bool} (h : EvD K w ta δ (.bool a)) (h2 : a = true → EvD K w tb δ (.bool b)) : EvD K w (tAndV ta tb) δ (.bool (a && b)) := fun _ _ _ F H σ S Q q => h _ _ _ _ _ _ S _ fun v F2 H2 s e => ⟨a, dp_bool e, by
  cases a with
  | true => exact h2 rfl _ _ _ _ _ _ (S.up s) _ fun v F3 H3 s2 e2 => q v F3 H3 (s.trans s2) e2
  | false => exact q _ F2 H2 s (.bl _)⟩
theorem ev_orV {a b : Bool} (h : EvD K w ta δ (.bool a)) (h2 : a = false → EvD K w tb δ (.bool b)) : EvD K w (tOrV ta tb) δ (.bool (a || b)) := fun _ _ _ F H σ S Q q => h _ _ _ _ _ _ S _ fun v F2 H2 s e => ⟨a, dp_bool e, by
  cases a with
  | false => exact h2 rfl _ _ _ _ _ _ (S.up s) _ fun v F3 H3 s2 e2 => q v F3 H3 (s.trans s2) e2
  | true => exact q _ F2 H2 s (.bl _)⟩
theorem ev_notV {a : Bool} (h : EvD K w ta δ (.bool a)) : EvD K w (tNotV ta) δ (.bool (!a)) := fun _ _ _ F H σ S Q q => h _ _ _ _ _ _ S _ fun v F2 H2 s e => ⟨a, dp_bool e, q _ F2 H2 s (.bl _)⟩
theorem ev_if {b : Bool} (h : TsB K w t δ b) (h1 : b = true → EvD K w ta δ d) (h2 : b = false → EvD K w tb δ d) : EvD K w (tIf t ta tb) δ d := fun _ _ _ F H σ S Q q => h _ _ _ _ _ _ S _ fun F2 H2 s => by
  cases b with
  | true => exact h1 rfl _ _ _ _ _ _ (S.up s) _ fun v F3 H3 s2 e2 => q v F3 H3 (s.trans s2) e2
  | false => exact h2 rfl _ _ _ _ _ _ (S.up s) _ fun v F3 H3 s2 e2 => q v F3 H3 (s.trans s2) e2
/-! arguments -/
theorem ea_nil : EvA K w tNil δ [] := fun _ _ _ F H _ S Q q => q [] F H (.refl S.fh) .nil
theorem ea_cons {tr : TA} (h : EvD K w te δ d) (hr : EvA K w tr δ ds) : EvA K w (tCons te tr) δ (d :: ds) := fun _ _ _ F H _ S Q q =>
  h _ _ _ _ _ _ S _ fun v F2 H2 s e => hr _ _ _ _ _ _ (S.up s) _ fun vs F3 H3 s2 e2 => q (v :: vs) F3 H3 (s.trans s2) (.cons (dp_up s2.ff _ _ e) e2)
theorem ra_nil : RdA K w tNil δ [] := fun _ _ _ F H _ S Q q => q [] F H (.refl S.fh) .nil
theorem ra_cons {tr : TA} (h : RdD K w te δ d) (hr : RdA K w tr δ ds) : RdA K w (tCons te tr) δ (d :: ds) := fun _ _ _ F H _ S Q q =>
  h _ _ _ _ _ _ S _ fun v F2 H2 s e => hr _ _ _ _ _ _ (S.up s) _ fun vs F3 H3 s2 e2 => q (v :: vs) F3 H3 (s.trans s2) (.cons (dp_up s2.hs _ _ e) e2)
/-! displays, items, slices -/
theorem small_line {n : Nat} (h : n ≤ 100000) : n ≤ sizeLine := Nat.le_trans h (by decide)
theorem ev_tup {t : TA} (h : EvA K w t δ ds) (hl : ds.length ≤ 100000) : EvD K w (tTupN t) δ (.tuple ds) := fun _ _ _ F H _ S Q q =>
  h _ _ _ _ _ _ S _ fun vs F2 H2 s e => ⟨by rw [da_len e]; exact small_line hl, fun p hp o ho =>
    q (.ref p) (upd F2 p (.frz o (.tup vs))) _ (s.trans (.frz s.fh hp (ok_tup ho))) (.tup (.inl (.inr ⟨_, upd_same⟩)) (da_up (same_new (s.fh.free hp)) _ _ e))⟩
theorem eo_lst {t : TA} (h : EvA K w t δ ds) (hl : ds.length ≤ 100000) : EvO K w (tLst t) δ ds := fun _ _ _ F H _ S Q q =>
  h _ _ _ _ _ _ S _ fun vs F2 H2 s e => ⟨by rw [da_len e]; exact small_line hl, fun p hp =>
    q p vs F2 _ (s.trans (.mk1 s.fh hp ok_lst)) (s.fh.free hp) (by
      cases e1 : H p with
      | none => rfl
      | some o => rw [s.hs _ _ e1] at hp; cases hp) upd_same e⟩
theorem at_da {H : Hp} {xs : List V} {i : Int} (h : DpAll K H xs ds) (e : atI ds i = some d) : ∃ v, atI xs i = some v ∧ Dp K H v d := by
  unfold atI at e ⊢
  rw [da_len h]
  cases q : ixN ds.length i with
  | none => rw [q] at e; cases e
  | some j =>
    rw [q] at e
    exact da_get h e
/-- xs[i], xs a list or a tuple that is kept -/
theorem ev_ixL {i : Int} (ha : EvD K w ta δ (.list ds)) (hb : EvD K w tb δ (.int i)) (e : atI ds i = some d) : EvD K w (tOp (rIxL K) ta tb) δ d := fun _ _ _ F H _ S Q q =>
  ha _ _ _ _ _ _ S _ fun v F2 H2 s e1 => hb _ _ _ _ _ _ (S.up s) _ fun u F3 H3 s2 e2 => by
    obtain ⟨a, xs, rfl, hs, hd⟩ := dp_list (dp_up s2.ff _ _ e1)
    obtain ⟨v, g1, g2⟩ := at_da hd e
    exact ⟨a, xs, i, v, rfl, dp_int e2, s2.fh.seq hs, g1, q v F3 H3 (s.trans s2) g2⟩
theorem ev_ixT {i : Int} (ha : EvD K w ta δ (.tuple ds)) (hb : EvD K w tb δ (.int i)) (e : atI ds i = some d) : EvD K w (tOp (rIxT K) ta tb) δ d := fun _ _ _ F H _ S Q q =>
  ha _ _ _ _ _ _ S _ fun v F2 H2 s e1 => hb _ _ _ _ _ _ (S.up s) _ fun u F3 H3 s2 e2 => by
    obtain ⟨a, xs, rfl, hs, hd⟩ := dp_tuple (dp_up s2.ff _ _ e1)
    obtain ⟨v, g1, g2⟩ := at_da hd e
    exact ⟨a, xs, i, v, rfl, dp_int e2, sqt_up s2.fh hs, g1, q v F3 H3 (s.trans s2) g2⟩
theorem rd_ixL {i : Int} (ha : RdD K w ta δ (.list ds)) (hb : RdD K w tb δ (.int i)) (e : atI ds i = some d) : RdD K w (tOp (rIxL K) ta tb) δ d := fun _ _ _ F H _ S Q q =>
  ha _ _ _ _ _ _ S _ fun v F2 H2 s e1 => hb _ _ _ _ _ _ (S.up s) _ fun u F3 H3 s2 e2 => by
    obtain ⟨a, xs, rfl, hs, hd⟩ := dp_list (dp_up s2.hs _ _ e1)
    obtain ⟨v, g1, g2⟩ := at_da hd e
    exact ⟨a, xs, i, v, rfl, dp_int e2, hs, g1, q v F3 H3 (s.trans s2) g2⟩
theorem rd_ixT {i : Int} (ha : RdD K w ta δ (.tuple ds)) (hb : RdD K w tb δ (.int i)) (e : atI ds i = some d) : RdD K w (tOp (rIxT K) ta tb) δ d := fun _ _ _ F H _ S Q q =>
  ha _ _ _ _ _ _ S _ fun v F2 H2 s e1 => hb _ _ _ _ _ _ (S.up s) _ fun u F3 H3 s2 e2 => by
    obtain ⟨a, xs, rfl, hs, hd⟩ := dp_tuple (dp_up s2.hs _ _ e1)
    obtain ⟨v, g1, g2⟩ := at_da hd e
    exact ⟨a, xs, i, v, rfl, dp_int e2, hs, g1, q v F3 H3 (s.trans s2) g2⟩
/-! built-ins -/
theorem rd_call {r : List V → Hp → VK → Prop} {t : TA} {z : V} {e : PD} (h : RdA K w t δ ds) (hz : ∀ H : Hp, Dp K H z e) (hr : ∀ (H : Hp) (vs : List V), DpAll K H vs ds → ∀ Q : VK, Q z H → r vs H Q) : EvD K w (tCB r t) δ e := fun _ _ _ F H _ S Q q =>
  h _ _ _ _ _ _ S _ fun vs F2 H2 s e => hr H2 vs e Q (q z F2 H2 s (hz F2))
theorem da1 {H : Hp} {vs : List V} (h : DpAll K H vs [d]) : ∃ v, vs = [v] ∧ Dp K H v d := by
  cases h with
  | cons r t => cases t; exact ⟨_, rfl, r⟩
theorem da2 {H : Hp} {vs : List V} (h : DpAll K H vs [d, x]) : ∃ v u, vs = [v, u] ∧ Dp K H v d ∧ Dp K H u x := by
  cases h with
  | cons r t => obtain ⟨u, rfl, r2⟩ := da1 t; exact ⟨_, u, rfl, r, r2⟩
def seqOf : PD → Option (List PD)
  | .list xs => some xs
  | .tuple xs => some xs
  | _ => none
theorem dp_seq {H : Hp} {v : V} (h : Dp K H v d) (e : seqOf d = some ds) : ∃ a xs, v = .ref a ∧ (SqL K H a xs ∨ SqT K H a xs) ∧ DpAll K H xs ds := by
  cases h with
  | lst h1 h2 => cases e; exact ⟨_, _, rfl, .inl h1, h2⟩
  | tup h1 h2 => cases e; exact ⟨_, _, rfl, .inr h1, h2⟩
  | _ => cases e
abbrev rLen (K : PySem.W.Frag) : List V → Hp → VK → Prop := fun xs H Q => ∃ p ys, xs = [.ref p] ∧ (SqL K H p ys ∨ SqT K H p ys) ∧ Q (.int ys.length) H
theorem ev_len (ha : RdD K w ta δ d) (e : seqOf d = some ds := by rfl) : EvD K w (tCB (rLen K) (tCons ta tNil)) δ (.int ds.length) :=
  rd_call (ra_cons ha ra_nil) (fun H => .int _) fun H vs h Q q => by
    obtain ⟨v, rfl, r⟩ := da1 h
    obtain ⟨a, xs, rfl, hs, hd⟩ := dp_seq r e
    exact ⟨a, xs, rfl, hs, by rw [da_len hd]; exact q⟩
abbrev rInt1 : List V → Hp → VK → Prop := fun xs H Q => (∃ i, xs = [.int i] ∧ Q (.int i) H) ∨ ∃ k, xs = [.bl k] ∧ Q (.int (if k then 1 else 0)) H
theorem ev_toInt {i : Int} (ha : RdD K w ta δ (.int i)) : EvD K w (tCB rInt1 (tCons ta tNil)) δ (.int i) :=
  rd_call (ra_cons ha ra_nil) (fun H => .int _) fun H vs h Q q => by
    obtain ⟨v, rfl, r⟩ := da1 h
    cases r
    exact .inl ⟨i, rfl, q⟩
theorem ev_toIntB {b : Bool} (ha : RdD K w ta δ (.bool b)) : EvD K w (tCB rInt1 (tCons ta tNil)) δ (.int (if b then 1 else 0)) :=
  rd_call (ra_cons ha ra_nil) (fun H => .int _) fun H vs h Q q => by
    obtain ⟨v, rfl, r⟩ := da1 h
    cases r
    exact .inr ⟨b, rfl, q⟩
abbrev rMax2 : List V → Hp → VK → Prop := fun xs H Q => ∃ i j, xs = [.int i, .int j] ∧ Q (.int (if j > i then j else i)) H
abbrev rMin2 : List V → Hp → VK → Prop := fun xs H Q => ∃ i j, xs = [.int i, .int j] ∧ Q (.int (if j < i then j else i)) H
theorem ev_max2 {i j : Int} (ha : RdD K w ta δ (.int i)) (hb : RdD K w tb δ (.int j)) : EvD K w (tCB rMax2 (tCons ta (tCons tb tNil))) δ (.int (max i j)) :=
  rd_call (ra_cons ha (ra_cons hb ra_nil)) (fun H => .int _) fun H vs h Q q => by
    obtain ⟨v, u, rfl, r, r2⟩ := da2 h
    cases r
    cases r2
    refine ⟨i, j, rfl, ?_⟩
    rw [show (if j > i then j else i) = max i j by split <;> omega]
    exact q
theorem ev_min2 {i j : Int} (ha : RdD K w ta δ (.int i)) (hb : RdD K w tb δ (.int j)) : EvD K w (tCB rMin2 (tCons ta (tCons tb tNil))) δ (.int (min i j)) :=
  rd_call (ra_cons ha (ra_cons hb ra_nil)) (fun H => .int _) fun H vs h Q q => by
    obtain ⟨v, u, rfl, r, r2⟩ := da2 h
    cases r
    cases r2
    refine ⟨i, j, rfl, ?_⟩
    rw [show (if j < i then j else i) = min i j by split <;> omega]
    exact q
theorem ev_bits {i : Int} (ha : RdD K w ta δ (.int i)) : EvD K w (tBits ta) δ (.int (Builtin.Int.intBits i : Nat)) := fun _ _ _ F H σ S Q q =>
  ha _ _ _ _ _ _ S _ fun v F2 H2 s1 e1 => ⟨i, dp_int e1, q _ F2 H2 s1 (.int _)⟩
/-! x in xs -/
def flatD : PD → Bool
  | .none => true
  | .bool _ => true
  | .int _ => true
  | .str _ => true
  | _ => false
theorem flat_v {H : Hp} {v : V} (h : Dp K H v d) : flatV v = flatD d := by cases h <;> rfl
theorem flats_v {H : Hp} : ∀ {vs : List V} {ds : List PD}, DpAll K H vs ds → ds.all flatD = true → vs.all flatV = true
  | _, _, .nil, _ => rfl
  | _, _, .cons r t, e => by
    rw [List.all_cons, Bool.and_eq_true] at e ⊢
    exact ⟨by rw [flat_v r]; exact e.1, flats_v t e.2⟩
theorem eq_v {H : Hp} {v u : V} (h : Dp K H v x) (h2 : Dp K H u y) (f : flatD x = true) (g : flatD y = true) : eqV v u = PyData.eqv x y := by
  cases h <;> cases h2 <;> first | rfl | (cases f; done) | (cases g; done) | (simp [eqV, PyData.eqv]; done)
theorem in_v {H : Hp} {u : V} (h2 : Dp K H u y) (g : flatD y = true) : ∀ {vs : List V} {ds : List PD}, DpAll K H vs ds → ds.all flatD = true → inV u vs = ds.any fun z => PyData.eqv z y
  | _, _, .nil, _ => rfl
  | _, _, .cons r t, e => by
    rw [List.all_cons, Bool.and_eq_true] at e
    have ih := in_v h2 g t e.2
    unfold inV at ih ⊢
    rw [List.any_cons, List.any_cons, ih, eq_v r h2 e.1 g]
theorem ev_in (ha : RdD K w ta δ x) (hb : RdD K w tb δ d) (hx : flatD x = true) (hd : ds.all flatD = true) (e : seqOf d = some ds := by rfl) : EvD K w (tOp (rIn K false) ta tb) δ (.bool (ds.any fun z => PyData.eqv z x)) :=
  rd_op2 ha hb (fun H => .bl _) fun H v u h1 h2 Q q => by
    obtain ⟨a, xs, rfl, hs, hd'⟩ := dp_seq h2 e
    refine ⟨a, xs, rfl, hs, by rw [flat_v h1]; exact hx, flats_v hd' hd, ?_⟩
    rw [in_v h1 hx hd' hd]
    exact q
theorem ev_notin (ha : RdD K w ta δ x) (hb : RdD K w tb δ d) (hx : flatD x = true) (hd : ds.all flatD = true) (e : seqOf d = some ds := by rfl) : EvD K w (tOp (rIn K true) ta tb) δ (.bool (!ds.any fun z => PyData.eqv z x)) :=
  rd_op2 ha hb (fun H => .bl _) fun H v u h1 h2 Q q => by
    obtain ⟨a, xs, rfl, hs, hd'⟩ := dp_seq h2 e
    refine ⟨a, xs, rfl, hs, by rw [flat_v h1]; exact hx, flats_v hd' hd, ?_⟩
    rw [in_v h1 hx hd' hd]
    exact q
end
end MU

namespace MU
open PySem PySem.Spec L2
/-! ## statements, by data -/
inductive Ret where
  | d (x : PD)
  | own (xs : List PD)
def RetOk (K : PySem.W.Frag) (H0 F H : Hp) (v : V) : Ret → Prop
  | .d x => Dp K F v x
  | .own xs => ∃ p vs, v = .ref p ∧ F p = none ∧ H0 p = none ∧ H p = some (.lst vs) ∧ DpAll K F vs xs
abbrev Dl := List Slot
abbrev PN := List Slot → Prop
/-- from the slots δ the statement goes on with slots of nx (bk, ct: by break, continue), or hands back by rt -/
def Run (K : PySem.W.Frag) (w : World) (ts : TS) (δ : List Slot) (nx : PN) (rt : List Slot → Ret → Prop) (bk ct : PN) : Prop :=
  ∀ F0 H0 m F H σ, Sig K w F0 H0 m F H σ δ → ∀ D : Ends,
    (∀ δ' F2 H2 σ2, nx δ' → Same F F2 → Sig K w F0 H0 m F2 H2 σ2 δ' → D.nx σ2 H2) →
    (∀ δ' r v F2 H2 σ2, rt δ' r → Same F F2 → Sig K w F0 H0 m F2 H2 σ2 δ' → RetOk K H0 F2 H2 v r → D.rt v H2) →
    (∀ δ' F2 H2 σ2, bk δ' → Same F F2 → Sig K w F0 H0 m F2 H2 σ2 δ' → D.bk σ2 H2) →
    (∀ δ' F2 H2 σ2, ct δ' → Same F F2 → Sig K w F0 H0 m F2 H2 σ2 δ' → D.ct σ2 H2) → ts D σ H
abbrev no1 : PN := fun _ => False
abbrev no2 : List Slot → Ret → Prop := fun _ _ => False
section
variable {K : PySem.W.Frag} {w : World} {δ δ' : List Slot} {te ta tb : TE} {tt : TT} {t u : TS} {d x y : PD} {ds es : List PD} {nx nx' mid bk ct : PN} {rt : List Slot → Ret → Prop} {g : TG}
theorem new_loc {F0 H0 F H : Hp} {m : Addr → Prop} {σ : St} {p : Addr} {s : Slot} (S : Sig K w F0 H0 m F H σ δ) (np : H p = none) (l : s.lc = true := by rfl) : (s.lc = true → H0 p = none) ∧ (s.lc = false → m p) := by
  have q : H0 p = none := by
    cases q : H0 p with
    | none => rfl
    | some o => exact absurd np (S.st.hn p (by rw [q]; exact fun z => nomatch z))
  exact ⟨fun _ => q, fun z => by rw [l] at z; cases z⟩
theorem Run.imp (h : Run K w t δ nx rt bk ct) (n : ∀ δ', nx δ' → nx' δ') : Run K w t δ nx' rt bk ct := fun _ _ _ F H σ S D a b c e => h _ _ _ _ _ _ S D (fun δ' F2 H2 σ2 q => a δ' F2 H2 σ2 (n _ q)) b c e
theorem run_next (h : nx δ) : Run K w tNext δ nx rt bk ct := fun _ _ _ F H σ S D a _ _ _ => a δ F H σ h (Same.refl F) S
theorem run_seq (h : Run K w t δ mid rt bk ct) (h2 : ∀ δ', mid δ' → Run K w u δ' nx rt bk ct) : Run K w (tSeq t u) δ nx rt bk ct := fun _ _ _ F H σ S D a b c e =>
  h _ _ _ _ _ _ S { D with nx := u D } (fun δ' F2 H2 σ2 q s S2 => h2 δ' q _ _ _ _ _ _ S2 D (fun δ'' F3 H3 σ3 q3 s3 S3 => a δ'' F3 H3 σ3 q3 (s.trans s3) S3)
      (fun δ'' r v F3 H3 σ3 q3 s3 S3 R => b δ'' r v F3 H3 σ3 q3 (s.trans s3) S3 R) (fun δ'' F3 H3 σ3 q3 s3 S3 => c δ'' F3 H3 σ3 q3 (s.trans s3) S3) (fun δ'' F3 H3 σ3 q3 s3 S3 => e δ'' F3 H3 σ3 q3 (s.trans s3) S3)) b c e
/-- x = e -/
theorem run_set {i : Nat} (h : EvD K w te δ d) (n : nx (δ.set i (.d d))) : Run K w (tAsg te (gName i)) δ nx rt bk ct := fun _ _ _ F H σ S D a _ _ _ =>
  h _ _ _ _ _ _ S _ fun v F2 H2 s e => a _ F2 H2 _ n s.ff ((S.up s).setD i e)
/-- x = e, e a new list that will change -/
theorem run_setO {i : Nat} (h : EvO K w te δ ds) (n : nx (δ.set i (.own true ds))) : Run K w (tAsg te (gName i)) δ nx rt bk ct := fun F0 H0 m F H σ S D a _ _ _ =>
  h _ _ _ _ _ _ S _ fun p vs F2 H2 s f np e dp => a _ F2 H2 _ n s.ff ((S.up s).setM i ⟨p, vs, rfl, f, e, dp⟩ rfl (new_loc S np) fun j sj _ ej mj eq => by
      obtain ⟨p', e1, _⟩ := S.ref ej mj
      rw [e1] at eq
      cases eq
      have q := S.ok j sj ej
      rw [e1] at q
      cases sj with
      | emp => cases mj
      | d x => cases mj
      | own b xs => obtain ⟨_, _, h1, _, h3, _⟩ := q; cases h1; rw [np] at h3; cases h3
      | gen b' n => obtain ⟨_, h1, _, _, _, _, h3, _⟩ := q; cases h1; rw [np] at h3; cases h3
      | set S' n => obtain ⟨_, h1, _, h3⟩ := q; cases h1; rw [np] at h3; cases h3
      | ob o9 => obtain ⟨_, h1, _, h3⟩ := q; cases h1; rw [np] at h3; cases h3)
theorem run_if {b : Bool} (h : TsB K w tt δ b) (h1 : b = true → Run K w t δ nx rt bk ct) (h2 : b = false → Run K w u δ nx rt bk ct) : Run K w (tIfS tt t u) δ nx rt bk ct := fun _ _ _ F H σ S D a r c e =>
  h _ _ _ _ _ _ S _ fun F2 H2 s => by
    cases b with
    | true => exact h1 rfl _ _ _ _ _ _ (S.up s) D (fun δ' F3 H3 σ3 q s2 S3 => a δ' F3 H3 σ3 q (s.ff.trans s2) S3) (fun δ' z v F3 H3 σ3 q s2 S3 R => r δ' z v F3 H3 σ3 q (s.ff.trans s2) S3 R) (fun δ' F3 H3 σ3 q s2 S3 => c δ' F3 H3 σ3 q (s.ff.trans s2) S3) (fun δ' F3 H3 σ3 q s2 S3 => e δ' F3 H3 σ3 q (s.ff.trans s2) S3)
    | false => exact h2 rfl _ _ _ _ _ _ (S.up s) D (fun δ' F3 H3 σ3 q s2 S3 => a δ' F3 H3 σ3 q (s.ff.trans s2) S3) (fun δ' z v F3 H3 σ3 q s2 S3 R => r δ' z v F3 H3 σ3 q (s.ff.trans s2) S3 R) (fun δ' F3 H3 σ3 q s2 S3 => c δ' F3 H3 σ3 q (s.ff.trans s2) S3) (fun δ' F3 H3 σ3 q s2 S3 => e δ' F3 H3 σ3 q (s.ff.trans s2) S3)
theorem run_ret (h : EvD K w te δ d) (n : rt δ (.d d)) : Run K w (tRet te) δ nx rt bk ct := fun _ _ _ F H σ S D _ b _ _ =>
  h _ _ _ _ _ _ S _ fun v F2 H2 s e => b δ (.d d) v F2 H2 σ n s.ff (S.up s) e
theorem run_retO (h : EvO K w te δ ds) (n : rt δ (.own ds)) : Run K w (tRet te) δ nx rt bk ct := fun F0 H0 m F H σ S D _ b _ _ =>
  h _ _ _ _ _ _ S _ fun p vs F2 H2 s f np e dp => b δ (.own ds) (.ref p) F2 H2 σ n s.ff (S.up s) ⟨p, vs, rfl, f, (by
    cases q : H0 p with
    | none => rfl
    | some o => exact absurd np (S.st.hn p (by rw [q]; exact fun z => nomatch z))), e, dp⟩
/-- return x, x the name of a list of the def's own -/
theorem run_retV {i : Nat} (hi : δ[i]? = some (.own true ds)) (n : rt δ (.own ds)) : Run K w (tRet (tVar i)) δ nx rt bk ct := fun F0 H0 m F H σ S D _ b _ _ => by
  obtain ⟨p, e, f⟩ := S.ref hi rfl
  obtain ⟨p', vs, h1, h2, h3, h4⟩ := S.ok i _ hi
  rw [e] at h1
  cases h1
  have q := (S.fr i _ p hi rfl e).1 rfl
  exact ⟨_, e, b δ (.own ds) (.ref p) F H σ n (Same.refl F) S ⟨p, vs, rfl, f, q, h3, h4⟩⟩
theorem run_drop (h : EvD K w te δ d) (n : nx δ) : Run K w (tDrop te) δ nx rt bk ct := fun _ _ _ F H σ S D a _ _ _ =>
  h _ _ _ _ _ _ S _ fun v F2 H2 s e => a _ F2 H2 _ n s.ff (S.up s)
theorem run_break (n : bk δ) : Run K w tBreak δ nx rt bk ct := fun _ _ _ F H σ S D _ _ c _ => c δ F H σ n (Same.refl F) S
theorem run_cont (n : ct δ) : Run K w tCont δ nx rt bk ct := fun _ _ _ F H σ S D _ _ _ e => e δ F H σ n (Same.refl F) S
theorem run_never (n : False) : Run K w t δ nx rt bk ct := n.elim
end
end MU

namespace MU
open PySem PySem.Spec L2
section
variable {K : PySem.W.Frag} {w : World} {δ δ' : List Slot} {te ta tb : TE} {tt : TT} {t u : TS} {d x y : PD} {ds es : List PD} {nx nx' mid bk ct : PN} {rt : List Slot → Ret → Prop} {g : TG} {wi : TI}
/-! ## lists of one's own that change -/
theorem Sig.own {F0 H0 F H : Hp} {m : Addr → Prop} {σ : L2.St} (S : Sig K w F0 H0 m F H σ δ) {i : Nat} {b : Bool} (hi : δ[i]? = some (.own b ds)) : ∃ p vs, σ[i]? = some (some (.ref p)) ∧ F p = none ∧ H p = some (.lst vs) ∧ DpAll K F vs ds := by
  obtain ⟨p, e, f⟩ := S.ref hi rfl
  obtain ⟨p', vs, h1, h2, h3, h4⟩ := S.ok i _ hi
  rw [e] at h1
  cases h1
  exact ⟨p, vs, e, f, h3, h4⟩
theorem lt_line {n : Nat} (h : n < 100000) : n < sizeLine := Nat.lt_of_lt_of_le h (by decide)
theorem run_append {i : Nat} {b : Bool} (hi : δ[i]? = some (.own b ds)) (h : EvD K w te δ d) (hl : ds.length < 100000) (n : nx (δ.set i (.own b (ds ++ [d])))) :
    Run K w (tDrop (tBM K "list" rAppend (tVar i) (tCons te tNil))) δ nx rt bk ct := fun _ _ _ F H σ S D a _ _ _ => by
  obtain ⟨p, vs, e1, f1, h1, d1⟩ := S.own hi
  refine ⟨_, e1, .inl ⟨rfl, vs, .inl (.inl h1)⟩, h _ _ _ _ _ _ S _ fun v F2 H2 s e => ?_⟩
  have f2 : F2 p = none := s.nj p f1 (by rw [h1]; exact fun z => nomatch z)
  have h2 : H2 p = some (.lst vs) := s.hs _ _ h1
  refine ⟨p, vs, v, rfl, rfl, h2, by rw [da_len d1]; exact lt_line hl, ?_⟩
  exact a _ F2 _ σ n s.ff ((S.up s).chg hi rfl e1 f2 (by rw [h2]; exact fun z => nomatch z) ⟨p, _, rfl, f2, upd_same, da_app (da_up s.ff _ _ d1) (.cons e .nil)⟩ rfl rfl)
theorem run_setitem {i j : Nat} {k : Int} {b : Bool} {tk : TE} (hi : δ[i]? = some (.own b ds)) (h : EvD K w te δ d) (hk : EvD K w tk δ (.int k)) (hj : ixN ds.length k = some j) (n : nx (δ.set i (.own b (ds.set j d)))) :
    Run K w (tAsg te (gSub (tVar i) tk rSetL)) δ nx rt bk ct := fun _ _ _ F H σ S D a _ _ _ =>
  h _ _ _ _ _ _ S _ fun v F2 H2 s e => by
    obtain ⟨p, vs, e1, f1, h1, d1⟩ := (S.up s).own hi
    refine ⟨_, e1, hk _ _ _ _ _ _ (S.up s) _ fun u F3 H3 s2 e2 => ?_⟩
    have f2 : F3 p = none := s2.nj p f1 (by rw [h1]; exact fun z => nomatch z)
    have h2 : H3 p = some (.lst vs) := s2.hs _ _ h1
    refine ⟨p, vs, k, j, rfl, dp_int e2, h2, by rw [da_len d1]; exact hj, ?_⟩
    exact a _ F3 _ σ n (s.ff.trans s2.ff) (((S.up s).up s2).chg hi rfl e1 f2 (by rw [h2]; exact fun z => nomatch z) ⟨p, _, rfl, f2, upd_same, da_set (dp_up s2.ff _ _ e) j (da_up s2.ff _ _ d1)⟩ rfl rfl)
/-- xs.reverse() -/
theorem run_reverse {i : Nat} {b : Bool} (hi : δ[i]? = some (.own b ds)) (n : nx (δ.set i (.own b ds.reverse))) : Run K w (tDrop (tBM0 K "list" rReverse (tVar i))) δ nx rt bk ct := fun _ _ _ F H σ S D a _ _ _ => by
  obtain ⟨p, vs, e1, f1, h1, d1⟩ := S.own hi
  refine ⟨_, e1, .inl ⟨rfl, vs, .inl (.inl h1)⟩, p, vs, rfl, rfl, h1, ?_⟩
  exact a _ F _ σ n (Same.refl F) (S.chg hi rfl e1 f1 (by rw [h1]; exact fun z => nomatch z) ⟨p, _, rfl, f1, upd_same, da_rev d1⟩ rfl rfl)
/-- a, b = e1, e2 -/
theorem run_par {i j : Nat} {tz : TA} (h : EvA K w tz δ [x, y]) (n : nx ((δ.set i (.d x)).set j (.d y))) : Run K w (tPar i j tz) δ nx rt bk ct := fun _ _ _ F H σ S D a _ _ _ =>
  h _ _ _ _ _ _ S _ fun vs F2 H2 s e => by
    obtain ⟨v, u, rfl, r1, r2⟩ := da2 e
    exact ⟨v, u, rfl, a _ F2 H2 _ n s.ff (((S.up s).setD i r1).setD j r2)⟩
/-! ## targets -/
def TgD (K : PySem.W.Frag) (w : World) (g : TG) (is : List Nat) (δ : List Slot) (x : PD) (δ' : List Slot) : Prop :=
  ∀ F0 H0 m F H σ v, Sig K w F0 H0 m F H σ δ → Dp K F v x → ∀ Q : L2.St → Hp → Prop, (∀ σ', Sig K w F0 H0 m F H σ' δ' → σ'.length = σ.length → (∀ j, j ∉ is → σ'[j]? = σ[j]?) → Q σ' H) → g v σ H Q
theorem tg_name {i : Nat} : TgD K w (gName i) [i] δ x (δ.set i (.d x)) := fun _ _ _ F H σ v S e Q q =>
  q _ (S.setD i e) (List.length_set ..) fun j hj => List.getElem?_set_ne (fun z => hj (by rw [z]; exact List.mem_cons_self))
def TgsD (K : PySem.W.Frag) (w : World) (g : TGs) (is : List Nat) (δ : List Slot) (xs : List PD) (δ' : List Slot) : Prop :=
  ∀ F0 H0 m F H σ vs, Sig K w F0 H0 m F H σ δ → DpAll K F vs xs → ∀ Q : L2.St → Hp → Prop, (∀ σ', Sig K w F0 H0 m F H σ' δ' → σ'.length = σ.length → (∀ j, j ∉ is → σ'[j]? = σ[j]?) → Q σ' H) → g vs σ H Q
theorem tgs_nil : TgsD K w gNil [] δ [] δ := fun _ _ _ F H σ vs S e Q q => by
  cases e
  exact ⟨rfl, q σ S rfl fun _ _ => rfl⟩
theorem tgs_cons {gs : TGs} {i1 i2 : List Nat} {δ1 δ2 : List Slot} (h : TgD K w g i1 δ x δ1) (h2 : TgsD K w gs i2 δ1 ds δ2) : TgsD K w (gCons g gs) (i1 ++ i2) δ (x :: ds) δ2 := fun _ _ _ F H σ vs S e Q q => by
  cases e with
  | cons r t =>
    exact ⟨_, _, rfl, h _ _ _ _ _ _ _ S r _ fun σ1 S1 l1 k1 => h2 _ _ _ _ _ _ _ S1 t _ fun σ2 S2 l2 k2 => q σ2 S2 (l2.trans l1) fun j hj =>
      (k2 j fun z => hj (List.mem_append_right _ z)).trans (k1 j fun z => hj (List.mem_append_left _ z))⟩
theorem tg_tup {gs : TGs} {is : List Nat} {n : Nat} (h : TgsD K w gs is δ ds δ') (hn : ds.length = n := by rfl) : TgD K w (gTup K n gs) is δ (.tuple ds) δ' := fun _ _ _ F H σ v S e Q q => by
  obtain ⟨a, xs, rfl, hs, hd⟩ := dp_tuple e
  exact ⟨a, xs, rfl, sqt_up S.fh hs, (da_len hd).trans hn, h _ _ _ _ _ _ _ S hd Q q⟩
/-- a, b = e -/
theorem run_asgT {δ1 : List Slot} {is : List Nat} (h : EvD K w te δ x) (hg : TgD K w g is δ x δ1) (n : nx δ1) : Run K w (tAsg te g) δ nx rt bk ct := fun _ _ _ F H σ S D a _ _ _ =>
  h _ _ _ _ _ _ S _ fun v F2 H2 s e => hg _ _ _ _ _ _ _ (S.up s) e _ fun σ' S' _ _ => a δ1 F2 H2 σ' n s.ff S'
/-! ## what is walked -/
def Yl (K : PySem.W.Frag) (J : It) (F : Hp) (ds : List PD) : Prop := ∀ F' H', Same F F' → Same F' H' → ∀ i : Nat,
  (∀ d, ds[i]? = some d → J.go i H' ∧ ∀ x H'', J.yld i H' x H'' → ∃ F'', Stp m0 F' H' F'' H'' ∧ Dp K F'' x d) ∧ (ds.length ≤ i → J.stop i H')
def ItD (K : PySem.W.Frag) (w : World) (wi : TI) (δ : List Slot) (ds : List PD) : Prop := ∀ F0 H0 m F H σ, Sig K w F0 H0 m F H σ δ → ∀ R : It → Hp → Prop, (∀ J F2 H2, Stp m0 F H F2 H2 → Yl K J F2 ds → R J H2) → wi σ H R
theorem yl_list {F : Hp} {a : Addr} {xs : List V} (hs : SqL K F a xs) (hd : DpAll K F xs ds) : Yl K (Itl K a) F ds := fun F' H' f h i =>
  ⟨fun d e => by
    obtain ⟨v, g1, g2⟩ := da_get hd e
    refine ⟨⟨xs, v, h.seq (f.seq hs), g1⟩, fun x H'' y => ?_⟩
    obtain ⟨rfl, y2⟩ := y
    have q := y2 xs (h.seq (f.seq hs))
    rw [g1] at q
    cases q
    exact ⟨F', .refl h, dp_up f _ _ g2⟩, fun l => ⟨xs, h.seq (f.seq hs), by rw [da_len hd]; exact l⟩⟩
theorem yl_tup {F : Hp} {a : Addr} {xs : List V} (hs : SqT K F a xs) (hd : DpAll K F xs ds) : Yl K (Itt K a) F ds := fun F' H' f h i =>
  ⟨fun d e => by
    obtain ⟨v, g1, g2⟩ := da_get hd e
    refine ⟨⟨xs, v, sqt_up h (sqt_up f hs), g1⟩, fun x H'' y => ?_⟩
    obtain ⟨rfl, y2⟩ := y
    have q := y2 xs (sqt_up h (sqt_up f hs))
    rw [g1] at q
    cases q
    exact ⟨F', .refl h, dp_up f _ _ g2⟩, fun l => ⟨xs, sqt_up h (sqt_up f hs), by rw [da_len hd]; exact l⟩⟩
def rngD (lo : Int) (n : Nat) : List PD := (List.range n).map fun k : Nat => .int (lo + k)
theorem rng_len (lo : Int) (n : Nat) : (rngD lo n).length = n := by unfold rngD; rw [List.length_map, List.length_range]
theorem rng_at {lo : Int} {n i : Nat} {d : PD} (h : (rngD lo n)[i]? = some d) : i < n ∧ d = .int (lo + i) := by
  unfold rngD at h
  rw [List.getElem?_map] at h
  by_cases q : i < n
  · rw [List.getElem?_range q] at h
    cases h
    exact ⟨q, rfl⟩
  · rw [List.getElem?_eq_none (by rw [List.length_range]; omega)] at h
    cases h
theorem yl_rng {F : Hp} {lo : Int} {n : Nat} : Yl K (Itr lo n) F (rngD lo n) := fun F' H' f h i =>
  ⟨fun d e => by
    obtain ⟨l, rfl⟩ := rng_at e
    refine ⟨l, fun x H'' y => ?_⟩
    obtain ⟨rfl, rfl⟩ := y
    exact ⟨F', .refl h, .int _⟩, fun l => by rw [rng_len] at l; exact l⟩
theorem it_list (h : EvD K w te δ (.list ds)) : ItD K w (iList K te) δ ds := fun _ _ _ F H σ S R q =>
  h _ _ _ _ _ _ S _ fun v F2 H2 s e => by
    obtain ⟨a, xs, rfl, hs, hd⟩ := dp_list e
    exact ⟨a, rfl, ⟨xs, s.fh.seq hs⟩, q _ F2 H2 s (yl_list hs hd)⟩
theorem it_tup (h : EvD K w te δ (.tuple ds)) : ItD K w (iTup K te) δ ds := fun _ _ _ F H σ S R q =>
  h _ _ _ _ _ _ S _ fun v F2 H2 s e => by
    obtain ⟨a, xs, rfl, hs, hd⟩ := dp_tuple e
    exact ⟨a, rfl, ⟨xs, sqt_up s.fh hs⟩, q _ F2 H2 s (yl_tup hs hd)⟩
theorem it_rng1 {n : Int} (h : RdD K w te δ (.int n)) (h1 : -(2 ^ 62) ≤ n) (h2 : n < 2 ^ 62) : ItD K w (iRng1 (tCons te tNil)) δ (rngD 0 n.toNat) := fun _ _ _ F H σ S R q =>
  h _ _ _ _ _ _ S _ fun v F2 H2 s e => ⟨n, by rw [dp_int e], h1, h2, q _ F2 H2 s yl_rng⟩
theorem it_rng2 {lo hi : Int} (ha : RdD K w ta δ (.int lo)) (hb : RdD K w tb δ (.int hi)) (h : -(2 ^ 62) ≤ lo ∧ lo < 2 ^ 62 ∧ -(2 ^ 62) ≤ hi ∧ hi < 2 ^ 62) : ItD K w (iRng2 (tCons ta (tCons tb tNil))) δ (rngD lo (hi - lo).toNat) := fun _ _ _ F H σ S R q =>
  ha _ _ _ _ _ _ S _ fun v F2 H2 s e => hb _ _ _ _ _ _ (S.up s) _ fun u F3 H3 s2 e2 => ⟨lo, hi, by rw [dp_int e, dp_int e2], h, q _ F3 H3 (s.trans s2) yl_rng⟩
/-! ## loops -/
theorem run_for (hi : ItD K w wi δ ds) (Inv : Nat → PN) (h0 : Inv 0 δ)
    (hs : ∀ (k : Nat) (x : PD) (δ' : List Slot), ds[k]? = some x → Inv k δ' → ∃ is δ1, TgD K w g is δ' x δ1 ∧ Run K w t δ1 (Inv (k + 1)) rt nx (Inv (k + 1)))
    (he : ∀ δ', Inv ds.length δ' → nx δ') : Run K w (tFor wi g t) δ nx rt bk ct := fun F0 H0 m F H σ S D a r c e =>
  hi _ _ _ _ _ _ S _ fun J F2 H2 s Y => by
    refine ⟨fun i n σ' H' => n = ds.length - i ∧ i ≤ ds.length ∧ ∃ δ' F', Inv i δ' ∧ Same F2 F' ∧ Sig K w F0 H0 m F' H' σ' δ', ⟨ds.length, by omega, Nat.zero_le _, δ, F2, h0, Same.refl F2, S.up s⟩, ?_⟩
    rintro i n σ' H' ⟨rfl, hi', δ', F', iv, f, S'⟩
    have y := Y F' H' f S'.fh i
    by_cases q : i < ds.length
    · refine .inr ?_
      have ex : ds[i]? = some ds[i] := List.getElem?_eq_getElem q
      obtain ⟨g1, g2⟩ := y.1 _ ex
      refine ⟨g1, fun σ2 H3 => ∃ δ2 F3, Inv (i + 1) δ2 ∧ Same F2 F3 ∧ Sig K w F0 H0 m F3 H3 σ2 δ2, fun σ2 H3 ⟨δ2, F3, b1, b2, b3⟩ => ⟨ds.length - (i + 1), by omega, rfl, q, δ2, F3, b1, b2, b3⟩, fun x H3 yy => ?_⟩
      obtain ⟨F3, s3, e3⟩ := g2 x H3 yy
      obtain ⟨is, δ1, tg, rn⟩ := hs i _ δ' ex iv
      refine tg _ _ _ _ _ _ _ (S'.up s3) e3 _ fun σ2 S2 _ _ => ?_
      exact rn _ _ _ _ _ _ S2 _ (fun δ2 F4 H4 σ3 p f4 S4 => ⟨δ2, F4, p, (f.trans s3.ff).trans f4, S4⟩) (fun δ2 z v F4 H4 σ3 p f4 S4 R => r δ2 z v F4 H4 σ3 p (((s.ff.trans f).trans s3.ff).trans f4) S4 R)
        (fun δ2 F4 H4 σ3 p f4 S4 => a δ2 F4 H4 σ3 p (((s.ff.trans f).trans s3.ff).trans f4) S4) (fun δ2 F4 H4 σ3 p f4 S4 => ⟨δ2, F4, p, (f.trans s3.ff).trans f4, S4⟩)
    · refine .inl ⟨y.2 (by omega), a δ' F' H' σ' (he δ' ?_) (s.ff.trans f) S'⟩
      have z : i = ds.length := by omega
      rw [← z]
      exact iv
theorem run_while {tc : TT} (Inv : Nat → PN) (h0 : ∃ n, Inv n δ)
    (hs : ∀ n δ', Inv n δ' → ∃ b, TsB K w tc δ' b ∧ (b = true → Run K w t δ' (fun δ2 => ∃ n', n' < n ∧ Inv n' δ2) rt nx (fun δ2 => ∃ n', n' < n ∧ Inv n' δ2)) ∧ (b = false → nx δ')) :
    Run K w (tWhile tc t) δ nx rt bk ct := fun F0 H0 m F H σ S D a r c e => by
  obtain ⟨n0, i0⟩ := h0
  refine ⟨fun n σ' H' => ∃ δ' F', Inv n δ' ∧ Same F F' ∧ Sig K w F0 H0 m F' H' σ' δ', ⟨n0, δ, F, i0, Same.refl F, S⟩, ?_⟩
  rintro n σ' H' ⟨δ', F', iv, f, S'⟩
  obtain ⟨b, tb, h1, h2⟩ := hs n δ' iv
  refine tb _ _ _ _ _ _ S' _ fun F2 H2 s => ?_
  cases b with
  | true =>
    rw [if_pos rfl]
    refine ⟨fun σ2 H3 => ∃ n', n' < n ∧ ∃ δ2 F3, Inv n' δ2 ∧ Same F F3 ∧ Sig K w F0 H0 m F3 H3 σ2 δ2, fun σ2 H3 ⟨n', l, q⟩ => ⟨n', l, q⟩, ?_⟩
    exact h1 rfl _ _ _ _ _ _ (S'.up s) _ (fun δ2 F4 H4 σ3 ⟨n', l, p⟩ f4 S4 => ⟨n', l, δ2, F4, p, (f.trans s.ff).trans f4, S4⟩) (fun δ2 z v F4 H4 σ3 p f4 S4 R => r δ2 z v F4 H4 σ3 p ((f.trans s.ff).trans f4) S4 R)
      (fun δ2 F4 H4 σ3 p f4 S4 => a δ2 F4 H4 σ3 p ((f.trans s.ff).trans f4) S4) (fun δ2 F4 H4 σ3 ⟨n', l, p⟩ f4 S4 => ⟨n', l, δ2, F4, p, (f.trans s.ff).trans f4, S4⟩)
  | false =>
    rw [if_neg Bool.false_ne_true]
    exact a δ' F2 H2 σ' (h2 rfl) (f.trans s.ff) (S'.up s)
/-! ## comprehensions -/
theorem wipe_get (s : L2.St) : ∀ (vs : List Nat) (j : Nat), (L2.wipe s vs)[j]? = if j ∈ vs ∧ j < s.length then some none else s[j]?
  | [], j => by
    rw [if_neg (fun z => by cases z.1)]
    rfl
  | v :: vs, j => by
    unfold L2.wipe
    by_cases h : v = j
    · subst h
      by_cases q : v < s.length
      · rw [List.getElem?_set_self (by rw [L2.wipe_length]; exact q), if_pos ⟨List.mem_cons_self, q⟩]
      · rw [List.getElem?_eq_none (by rw [List.length_set, L2.wipe_length]; omega), if_neg (fun z => q z.2), List.getElem?_eq_none (by omega)]
    · rw [List.getElem?_set_ne h, wipe_get s vs j]
      by_cases q : j ∈ vs ∧ j < s.length
      · rw [if_pos q, if_pos ⟨List.mem_cons_of_mem _ q.1, q.2⟩]
      · rw [if_neg q, if_neg fun z => q ⟨by
          rcases List.mem_cons.mp z.1 with e | e
          · exact absurd e.symm h
          · exact e, z.2⟩]
theorem wipe_back {s s' : L2.St} {vs is : List Nat} (hl : s'.length = (L2.wipe s vs).length) (hk : ∀ j, j ∉ is → s'[j]? = (L2.wipe s vs)[j]?) (hi : ∀ j ∈ is, j ∈ vs) : L2.wipe s' vs = L2.wipe s vs := by
  rw [L2.wipe_length] at hl
  refine List.ext_getElem? fun j => ?_
  rw [wipe_get, wipe_get]
  by_cases q : j ∈ vs ∧ j < s.length
  · rw [if_pos q, if_pos ⟨q.1, by rw [hl]; exact q.2⟩]
  · rw [if_neg q, if_neg (fun z => q ⟨z.1, by rw [← hl]; exact z.2⟩)]
    by_cases z : j ∈ vs
    · have l : ¬ j < s.length := fun y => q ⟨z, y⟩
      rw [List.getElem?_eq_none (by omega), List.getElem?_eq_none (by omega)]
    · rw [hk j (fun y => z (hi j y)), wipe_get, if_neg q]
theorem ts_yes : TsB K w tYes δ true := fun _ _ _ F H σ S Q q => q F H (.refl S.fh)
theorem take_more {α : Type} {l : List α} {i : Nat} {x : α} (h : l[i]? = some x) : l.take (i + 1) = l.take i ++ [x] := by rw [List.take_add_one, h]; rfl
theorem eo_lc {vs : List Nat} (hi : ItD K w wi δ ds) (f : PD → Option PD) (hl : ds.length ≤ 100000)
    (hs : ∀ (k : Nat) (x : PD), ds[k]? = some x → ∃ is δ1 b, (∀ j ∈ is, j ∈ vs) ∧ TgD K w g is (wipeD δ vs) x δ1 ∧ TsB K w tt δ1 b ∧ (b = true → ∃ y, EvD K w te δ1 y ∧ f x = some y) ∧ (b = false → f x = none)) :
    EvO K w (tLc wi g tt te vs) δ (ds.filterMap f) := fun F0 H0 m F H σ S Q q =>
  hi _ _ _ _ _ _ S _ fun J F2 H2 s Y => fun D nD => by
    have f2 : F2 D = none := s.fh.free nD
    refine ⟨fun i n H' => n = ds.length - i ∧ i ≤ ds.length ∧ ∃ F' acc, Stp m0 F2 H2 F' H' ∧ F' D = none ∧ H' D = some (.lst acc) ∧ DpAll K F' acc ((ds.take i).filterMap f), ⟨ds.length, by omega, Nat.zero_le _, F2, [], .mk1 s.fh nD, f2, upd_same, .nil⟩, ?_⟩
    rintro i n H' ⟨rfl, hi', F', acc, st, fD, hD, hd⟩
    have y := Y F' H' st.ff st.fh i
    by_cases z : i < ds.length
    · refine .inr ?_
      have ex : ds[i]? = some ds[i] := List.getElem?_eq_getElem z
      obtain ⟨g1, g2⟩ := y.1 _ ex
      refine ⟨g1, fun H' => i + 1 ≤ ds.length ∧ ∃ F' acc, Stp m0 F2 H2 F' H' ∧ F' D = none ∧ H' D = some (.lst acc) ∧ DpAll K F' acc ((ds.take (i + 1)).filterMap f), fun H' h' => ⟨ds.length - (i + 1), by omega, rfl, h'⟩, fun x H3 yy => ?_⟩
      obtain ⟨F3, s3, e3⟩ := g2 x H3 yy
      obtain ⟨is, δ1, b, iv, tg, tb, h1, h2⟩ := hs i _ ex
      refine tg _ _ _ _ _ _ _ ((((S.up s).up st).up s3).wipe vs) e3 _ fun σ2 S2 l2 k2 => ⟨wipe_back l2 k2 iv, ?_⟩
      refine tb _ _ _ _ _ _ S2 _ fun F4 H4 s4 => ?_
      have D3 : H3 D = some (.lst acc) := s3.hs _ _ hD
      have n3 : F3 D = none := s3.nj D fD (by rw [hD]; exact fun z => nomatch z)
      cases b with
      | true =>
        rw [if_pos rfl]
        obtain ⟨y1, ev, fy⟩ := h1 rfl
        refine ev _ _ _ _ _ _ (S2.up s4) _ fun v F5 H5 s5 e5 => ?_
        have D5 : H5 D = some (.lst acc) := s5.hs _ _ (s4.hs _ _ D3)
        have n5 : F5 D = none := s5.nj D (s4.nj D n3 (by rw [D3]; exact fun z => nomatch z)) (by rw [s4.hs _ _ D3]; exact fun z => nomatch z)
        have stA : Stp m0 F2 H2 F5 H5 := ((st.trans s3).trans s4).trans s5
        refine ⟨acc, D5, lt_line ?_, z, F5, acc ++ [v], ⟨stA.ff, fun b o eb => ?_, fun a o _ ea => ?_, stA.nj, fun a na => up_some (stA.hn a na), fun n => (stA.nd n).put ok_lst⟩, n5, upd_same, ?_⟩
        · rw [da_len hd]
          have := List.length_filterMap_le f (ds.take i)
          rw [List.length_take] at this
          omega
        · rw [upd_ne (ne_of_none eb n5)]
          exact stA.fh b o eb
        · rw [upd_ne (ne_of_none ea nD)]
          exact stA.hs a o ea
        · rw [take_more ex, List.filterMap_append]
          refine da_app (da_up ((s3.ff.trans s4.ff).trans s5.ff) _ _ hd) ?_
          rw [List.filterMap_cons, fy]
          exact .cons e5 .nil
      | false =>
        rw [if_neg Bool.false_ne_true]
        refine ⟨z, F4, acc, (st.trans s3).trans s4, s4.nj D n3 (by rw [D3]; exact fun z => nomatch z), s4.hs _ _ D3, ?_⟩
        rw [take_more ex, List.filterMap_append, List.filterMap_cons, h2 rfl]
        rw [List.filterMap_nil, List.append_nil]
        exact da_up (s3.ff.trans s4.ff) _ _ hd
    · refine .inl ⟨y.2 (by omega), ?_⟩
      rw [List.take_of_length_le (by omega)] at hd
      exact q D acc F' H' (s.trans st) fD (by
        cases e1 : H D with
        | none => rfl
        | some o => rw [s.hs _ _ e1] at nD; cases nD) hD hd
/-- [e for x in xs] -/
theorem eo_map {vs : List Nat} (hi : ItD K w wi δ ds) (f : PD → PD) (hl : ds.length ≤ 100000)
    (hs : ∀ (k : Nat) (x : PD), ds[k]? = some x → ∃ is δ1, (∀ j ∈ is, j ∈ vs) ∧ TgD K w g is (wipeD δ vs) x δ1 ∧ EvD K w te δ1 (f x)) :
    EvO K w (tLc wi g tYes te vs) δ (ds.map f) := by
  have h := eo_lc (tt := tYes) (vs := vs) (te := te) (g := g) hi (fun x => some (f x)) hl fun k x e => by
    obtain ⟨is, δ1, h1, h2, h3⟩ := hs k x e
    exact ⟨is, δ1, true, h1, h2, ts_yes, fun _ => ⟨_, h3, rfl⟩, fun z => nomatch z⟩
  have e : (ds.filterMap fun x => some (f x)) = ds.map f := by rw [List.filterMap_eq_map']
  rw [e] at h
  exact h
/-! ## defs -/
def spS (K : PySem.W.Frag) (n : Nat) (R : List PD → PD → Prop) : Sp := fun vs H Q _ => ∃ F ds d, Fz F H ∧ DpAll K F vs ds ∧ ds.length = n ∧ R ds d ∧ ∀ v F2 H2, Stp m0 F H F2 H2 → Dp K F2 v d → Q v H2
def spO (K : PySem.W.Frag) (n : Nat) (R : List PD → List PD → Prop) : Sp := fun vs H Q _ => ∃ F ds es, Fz F H ∧ DpAll K F vs ds ∧ ds.length = n ∧ R ds es ∧
  ∀ p xs F2 H2, Stp m0 F H F2 H2 → F2 p = none → H p = none → H2 p = some (.lst xs) → DpAll K F2 xs es → Q (.ref p) H2
theorem len_S {n : Nat} {R : List PD → PD → Prop} : ∀ vs H Q E, spS K n R vs H Q E → vs.length = n := fun vs H Q E ⟨_, _, _, _, h, l, _⟩ => (da_len h).trans l
theorem len_O {n : Nat} {R : List PD → List PD → Prop} : ∀ vs H Q E, spO K n R vs H Q E → vs.length = n := fun vs H Q E ⟨_, _, _, _, h, l, _⟩ => (da_len h).trans l
def startD (n : Nat) (ds : List PD) : List Slot := ds.map .d ++ List.replicate (n - ds.length) .emp
theorem start_sig {N : List Str} {F H : Hp} {vs : List V} (h : DpAll K F vs ds) (s : Fz F H) : Sig K w F H m0 F H (L2.start N vs) (startD N.length ds) := by
  have l := da_len h
  have slot : ∀ (i : Nat) (s : Slot), (startD N.length ds)[i]? = some s → (∃ d, ds[i]? = some d ∧ s = .d d) ∨ s = .emp := fun i s e => by
    unfold startD at e
    by_cases q : i < ds.length
    · rw [List.getElem?_append_left (by rw [List.length_map]; exact q), List.getElem?_map] at e
      rw [List.getElem?_eq_getElem q] at e ⊢
      exact .inl ⟨_, rfl, (Option.some.inj e).symm⟩
    · rw [List.getElem?_append_right (by rw [List.length_map]; omega)] at e
      exact .inr (List.eq_of_mem_replicate (List.mem_of_getElem? e))
  refine ⟨.refl s.s, ?_, fun i s e => ?_, fun i j si sj v _ ei _ mi => ?_, fun i s p e ms => ?_, s.n⟩
  · unfold L2.start startD
    rw [List.length_append, List.length_append, List.length_map, List.length_map, List.length_replicate, List.length_replicate, l]
  · rcases slot i s e with ⟨d, e1, rfl⟩ | rfl
    · obtain ⟨v, h1, h2⟩ := da_get h e1
      refine ⟨v, ?_, h2⟩
      unfold L2.start
      rw [List.getElem?_append_left (by rw [List.length_map]; exact (List.getElem?_eq_some_iff.mp h1).1), List.getElem?_map, h1]
      rfl
    · exact trivial
  · rcases slot i si ei with ⟨d, e1, rfl⟩ | rfl <;> cases mi
  · rcases slot i s e with ⟨d, e1, rfl⟩ | rfl <;> cases ms
theorem run_spS {N : List Str} {F H : Hp} {vs : List V} {Q : VK} (s : Fz F H) (h : DpAll K F vs ds) (k : ∀ v F2 H2, Stp m0 F H F2 H2 → Dp K F2 v d → Q v H2)
    (r : Run K w t (startD N.length ds) (fun _ => d = .none) (fun _ r => r = .d d ∨ ∃ xs, r = .own xs ∧ d = .list xs) no1 no1) : t { nx := fun _ H' => Q .non H', rt := Q } (L2.start N vs) H :=
  r F H m0 F H _ (start_sig h s) _ (fun δ' F2 H2 σ2 e _ S => k _ F2 H2 S.st (by rw [e]; exact .non)) (fun δ' r v F2 H2 σ2 e f S R => by
    rcases e with rfl | ⟨xs, rfl, rfl⟩
    · exact k v F2 H2 S.st R
    · obtain ⟨p, vs, rfl, f1, h0, h1, d1⟩ := R
      refine k _ (upd F2 p (.lst vs)) H2 ⟨S.st.ff.trans (same_new f1), fun b o eb => ?_, S.st.hh, fun b eb nb => ?_, S.st.hn, S.st.nd⟩ (.lst (.inl (.inl upd_same)) (da_up (same_new f1) _ _ d1))
      · by_cases z : b = p
        · subst z; rw [upd_same] at eb; cases eb; exact h1
        · rw [upd_ne z] at eb; exact S.fh b o eb
      · rw [upd_ne (fun z => nb (by rw [z]; exact h0))]
        exact S.st.nj b eb nb) (fun _ _ _ _ z => z.elim) (fun _ _ _ _ z => z.elim)
theorem run_spO {N : List Str} {F H : Hp} {vs : List V} {Q : VK} (s : Fz F H) (h : DpAll K F vs ds) (k : ∀ p xs F2 H2, Stp m0 F H F2 H2 → F2 p = none → H p = none → H2 p = some (.lst xs) → DpAll K F2 xs es → Q (.ref p) H2)
    (r : Run K w t (startD N.length ds) no1 (fun _ r => r = .own es) no1 no1) : t { nx := fun _ H' => Q .non H', rt := Q } (L2.start N vs) H :=
  r F H m0 F H _ (start_sig h s) _ (fun _ _ _ _ z => z.elim) (fun δ' r v F2 H2 σ2 e f S R => by
    subst e
    obtain ⟨p, vs, rfl, f1, h0, h1, d1⟩ := R
    exact k p vs F2 H2 S.st f1 h0 h1 d1) (fun _ _ _ _ z => z.elim) (fun _ _ _ _ z => z.elim)
/-! calls -/
variable {n : Nat} {R : List PD → PD → Prop} {RO : List PD → List PD → Prop} {E : XK} {tz : TA}
theorem ev_call (h : EvA K w tz δ ds) (r : R ds d) (hl : ds.length = n := by rfl) : EvD K w (tCall (spS K n R) [] E tz) δ d := fun _ _ _ F H _ S Q q =>
  h _ _ _ _ _ _ S _ fun vs F2 H2 s e => ⟨F2, ds, d, (S.up s).fz, by rw [List.append_nil]; exact e, hl, r, fun v F3 H3 s3 e3 => q v F3 H3 (s.trans s3) e3⟩
theorem ev_callR (h : RdA K w tz δ ds) (r : R ds d) (sc : (scV d).isSome = true := by rfl) (hl : ds.length = n := by rfl) : EvD K w (tCall (spS K n R) [] E tz) δ d := fun _ _ _ F H _ S Q q =>
  h _ _ _ _ _ _ S _ fun vs F2 H2 s e => ⟨H2, ds, d, ⟨Same.refl H2, (S.up s).fz.n⟩, by rw [List.append_nil]; exact e, hl, r, fun v F3 H3 s3 e3 => q v F2 H3 (s.trans (.same s.fh s3.hs s3.nd)) (dp_sc e3 sc)⟩
theorem eo_call (h : EvA K w tz δ ds) (r : RO ds es) (hl : ds.length = n := by rfl) : EvO K w (tCall (spO K n RO) [] E tz) δ es := fun _ _ _ F H _ S Q q =>
  h _ _ _ _ _ _ S _ fun vs F2 H2 s e => ⟨F2, ds, es, (S.up s).fz, by rw [List.append_nil]; exact e, hl, r, fun p xs F3 H3 s3 f n e3 d3 => q p xs F3 H3 (s.trans s3) f (by
    cases e1 : H p with
    | none => rfl
    | some o => rw [s.hs _ _ e1] at n; cases n) e3 d3⟩
theorem eo_callR (h : RdA K w tz δ ds) (r : RO ds es) (sc : ∀ d ∈ es, (scV d).isSome = true) (hl : ds.length = n := by rfl) : EvO K w (tCall (spO K n RO) [] E tz) δ es := fun _ _ _ F H _ S Q q =>
  h _ _ _ _ _ _ S _ fun vs F2 H2 s e => ⟨H2, ds, es, ⟨Same.refl H2, (S.up s).fz.n⟩, by rw [List.append_nil]; exact e, hl, r, fun p xs F3 H3 s3 f n e3 d3 => q p xs F2 H3 (s.trans (.same s.fh s3.hs s3.nd)) (s.fh.free n) (by
    cases e1 : H p with
    | none => rfl
    | some o => rw [s.hs _ _ e1] at n; cases n) e3 (da_sc d3 sc)⟩
end
end MU

namespace MU
open PySem PySem.Spec L2
open PyProof.Rows (list_addW pow_int)
open PySem.W (codeIn)
/-! ## further rules of operators -/
def rCatL (K : PySem.W.Frag) : R2 := fun x y H Q => ∃ l b xs zs, x = .ref l ∧ y = .ref b ∧ SqL K H l xs ∧ SqL K H b zs ∧ xs.length + zs.length ≤ sizeLine ∧ ∀ p, H p = none → Q (.ref p) (upd H p (.lst (xs ++ zs)))
section
variable {X : Cx}
theorem op_catL : OpR X (binaryOp .Add) (rCatL X.K) := by
  intro pins s σ H x y v u Q I rx ry h
  obtain ⟨l, b, xs, zs, e1, e2, hs, hs2, hz, q⟩ := h
  subst e1; subst e2
  cases rx
  cases ry
  obtain ⟨is1, r1, ⟨⟨c1, d1, a1, t1⟩, n1, o1, q1, k1, w1⟩, _⟩ := I.list hs
  obtain ⟨is2, r2, ⟨⟨c2, d2, a2, t2⟩, n2, o2, q2, k2, w2⟩, _⟩ := I.list hs2
  simp only at q1 w1 q2 w2
  subst q1; subst w1; subst q2; subst w2
  have e : is1.toArray ++ is2.toArray = (is1 ++ is2).toArray := by simp
  have sz : is1.toArray.size + is2.toArray.size ≤ sizeLine := by rw [List.size_toArray, List.size_toArray, ← r1.length, ← r2.length]; exact hz
  refine concat_meets ⟨_, o1, rfl⟩ ⟨_, o2, rfl⟩ noFill_list_add seq_list_add PySem.F.slot_list_add PySem.F.entry_list_add (PySem.F.args_list_add_2 _ _) (list_addW l b is1.toArray is2.toArray n1 n2 d1 d2 t1 t2 sz) ⟨o1, o2, ?_⟩
  rw [e]
  exact ⟨.ref _, _, I.lnew (t' := s.toks) (r1.append r2) (by rw [List.length_append]; exact hz), rfl, q _ I.fresh⟩
/-- a power of great ints -/
def CPowW (i j : Int) : Prop := 0 ≤ j ∧ (Builtin.Int.intBits i : Int) * j ≤ 2 ^ 27
theorem op_powW : OpR X (binaryOp .Pow) (rI CPowW fun i j => .int (i ^ j.toNat)) := opI fun _ _ _ _ _ _ _ hc q => pow_int hc.1 hc.2 q
end
/-! ## {e} -/
def tSet1 (w : World) (te : TE) : TE := fun σ H Q => ∀ p, H p = none → te σ (upd H p (SetO w p (fun _ => false) 0)) fun x H1 => ∃ i, x = .int i ∧ H1 p = some (SetO w p (fun _ => false) 0) ∧ Q (.ref p) (upd H1 p (SetO w p (fun j => false || decide (j = i)) 1))
section
variable {X : Cx}
theorem newset_led {P : Program} {w : World} {A : Around} {E : Value → Shared → Prop} {s : Shared} {Q : Value → Shared → Prop}
    (h : ∀ o : Obj, SetR w (s.heap.push o) s.heap.objs.size (fun _ => false) 0 → Q (.ref s.heap.objs.size) { s with heap := s.heap.push o }) : wpAny (model P w) A (newSet (.type "set")) Q E s := by
  unfold newSet setsByText
  refine wpAny_bind (wpAny_bind
        (wpAny_askSetting (wpAny_pure ?_)))
  simp only [newObj]
  exact wpAny_bind (wpAny_alloc (wpAny_pure (h _ (setR_fresh w))))
theorem setadd_led {P : Program} {w : World} {A : Around} {E : Value → Shared → Prop} {s : Shared} {a : Addr} {S : Int → Bool} {n : Nat} {k : Int} {tk : Tok} {Q : Bool → Shared → Prop} (R : SetR w s.heap a S n) (room : n + 1 < scanBound)
    (hQ : ∀ h', Heap.SameBut a s.heap h' → SetR w h' a (fun j => S j || decide (j = k)) (if S k = true then n else n + 1) → Q (!S k) { s with heap := h', toks := s.toks + 1 }) : wpAny (model P w) A (setAdd a (.int k tk)) Q E s := by
  unfold setAdd
  refine wpAny_holding (wpAny_bind ((intKind P w).pyHash (intKind_is P w k tk) ?_))
  exact setR_add_hashed (s := { s with toks := s.toks + 1 }) R room hQ
theorem pe_set1 {e : Expr} {te : TE} {k : Nat} {pos : Pos} (hc : PySem.W.kdsCode X.K X.env.code = true) (he : PE X e te) (hp : [e].all PySem.W.kdsPlain = true := by rfl) (hr : displayRoad k [e] = .oneByOne := by rfl) : PE X (.Set [e] k pos) (tSet1 X.w te) := by
  refine ⟨fun pins s σ H Q I h => ?_⟩
  rw [arm_eval_Set]
  refine wpAny_bind (wpAny_standAt (wpAny_bind (PySem.W.kds_main I.kIn hc fun b => ?_)))
  have e0 : evalEach [e] X.env = [eval e X.env] := by
    rw [arm_evalEach_cons]
    rfl
  rw [PySem.W.kds_star [e] hp, List.map_map, hr, e0]
  show wpAny _ _ (setDisplay .oneByOne b [(false, do let v ← eval e X.env; standAt pos; pure v)]) _ _ _
  unfold setDisplay
  try dsimp only
  rw [if_neg (by decide)]
  refine wpAny_bind (newset_led fun o R => ?_)
  dsimp only
  have I1 := I.laid (t' := s.toks) (fun b u eb => Heap.get?_push_of_some o eb) (Nat.le_refl _) (setO_new (P := X.prog) (H := upd H s.heap.objs.size (SetO X.w s.heap.objs.size (fun _ => false) 0)) R)
  have h1 := h _ (I.hok.fresh (Nat.le_refl _))
  refine wpAny_bind (wpAny_holding (wpAny_bind ?_))
  show wpAny _ _ (evalAll [do let v ← eval e X.env; standAt pos; pure v]) _ _ _
  show wpAny _ _ ((eval e X.env >>= fun v => standAt pos >>= fun _ => pure v) >>= fun v => holding [v] (evalAll []) >>= fun r => pure (v :: r)) _ _ _
  refine wpAny_bind (wpAny_bind (thn (he.run pins _ σ _ _ I1 h1) fun u s1 h2 => ?_))
  obtain ⟨x, H1, I2, rx, i, ex, hs, q⟩ := h2
  subst ex
  obtain ⟨tk, rfl⟩ := rx
  refine wpAny_bind
        (wpAny_standAt (wpAny_pure ?_))
  refine wpAny_bind (wpAny_holding (wpAny_pure (wpAny_pure ?_)))
  refine wpAny_bind (wpAny_holding ?_)
  rw [List.forIn_cons]
  refine wpAny_bind (wpAny_bind (wpAny_bind (setadd_led (setO_get I2 hs) (by decide) fun h' sb R2 => wpAny_pure ?_)))
  dsimp only
  rw [List.forIn_nil]
  refine wpAny_pure ?_
  rw [if_neg (by decide)]
  have he2 : ∃ u, h'.get? s.heap.objs.size = some u := by
    have ⟨o, _, _, _, ho, _⟩ := R2
    exact ⟨o, ho⟩
  have I3 := I2.write (e := s.heap.objs.size) (t' := s1.toks + 1) (by rw [hs]; trivial) (.inl rfl) (fun b u hb hu => (sb.2 b hb).trans hu) he2 (setO_new (P := X.prog) (H := upd H1 s.heap.objs.size (SetO X.w s.heap.objs.size (fun j => false || decide (j = i)) 1)) R2)
  refine wpAny_pure (wpAny_bind ?_)
  show wpAny _ _ (forIn (([] : List (Bool × Sem Value))) PUnit.unit _) _ _ _
  rw [List.forIn_nil]
  exact wpAny_pure (wpAny_pure (wpAny_pure ⟨.ref _, _, I3, rfl, q⟩))
end
/-! a def's body that knows its code object -/
section
variable {P : Program} {w : World} {K : PySem.W.Frag} {mg : Str → Option Value} {base : Heap}
theorem kds_of_code {cd : Value} {q : Str} (h : PySem.W.codeIn K cd q = true) : PySem.W.kdsCode K cd = true := by
  unfold PySem.W.codeIn at h
  unfold PySem.W.kdsCode
  split at h
  · split at h
    · rename_i ho
      simp only [ho]
    · cases h
  · cases h
theorem fun_okC {x qual : Str} {st : Stmt} {f : Addr} {fd : FuncData} {N ps : List Str} {k : Nat} {sp : Sp} (F : Fun K x qual st f fd) (S : FnScope N ps (defScope st)) (len : ∀ vs H Q E, sp vs H Q E → vs.length = ps.length)
    (hb : ∀ (cdv : Value), PySem.W.codeIn K cdv qual = true → ∀ (A : Around) (outer : List Env) (s : Shared) (H : Hp) (vs : List V) (Q : VK) (E : XK), Room k (A.deeper (PyProof.Rows.envOfC qual (defScope st) s.heap.objs.size f cdv)) → sp vs H Q E →
      ∃ t, PSs (cxOf CX0 P w K mg base N qual (defScope st) f cdv A outer s H E).nox (defBody st) t ∧ t { nx := fun _ H' => Q .non H', rt := Q } (L2.start N vs) H) : FnOk P w K mg base CX0 (k + 1) f fd ps sp := by
  obtain ⟨_, _, _, _, _, _, cdv, _, _, z, lk, hcd⟩ := F.ex
  subst z
  refine fn_of lk hcd S len fun
        A outer s H vs Q E hr hsp => ?_
  have ⟨t, h, q⟩ := hb cdv hcd A outer s H vs Q E hr hsp
  exact ⟨t, h.nox, q⟩
end
theorem nF {p : Prop} (h : false = true) : p := by cases h
theorem nT {p : Prop} (h : true = false) : p := by cases h
/-! ## the same, by data -/
section
variable {K : PySem.W.Frag} {w : World} {δ δ' : List Slot} {te ta tb : TE} {tt : TT} {t u : TS} {d x y : PD} {ds es xs ys : List PD} {nx nx' mid bk ct : PN} {rt : List Slot → Ret → Prop} {g : TG} {wi : TI}
/-- a list to be read whose items may be kept -/
def SqD (K : PySem.W.Frag) (w : World) (te : TE) (δ : List Slot) (ds : List PD) : Prop := ∀ F0 H0 m F H σ, Sig K w F0 H0 m F H σ δ → ∀ Q : VK, (∀ a vs F2 H2, Stp m0 F H F2 H2 → SqL K H2 a vs → DpAll K F2 vs ds → Q (.ref a) H2) → te σ H Q
theorem EvD.sq (h : EvD K w te δ (.list ds)) : SqD K w te δ ds := fun _ _ _ F H σ S Q q => h _ _ _ _ _ _ S _ fun v F2 H2 s e => by
  obtain ⟨a, vs, rfl, hs, hd⟩ := dp_list e
  exact q a vs F2 H2 s (s.fh.seq hs) hd
theorem EvO.sq (h : EvO K w te δ ds) : SqD K w te δ ds := fun _ _ _ F H σ S Q q => h _ _ _ _ _ _ S _ fun p vs F2 H2 s f n e a => q p vs F2 H2 s (.inl (.inl e)) a
theorem sq_own {i : Nat} {b : Bool} (hi : δ[i]? = some (.own b ds)) : SqD K w (tVar i) δ ds := fun _ _ _ F H σ S Q q => by
  obtain ⟨p, vs, e1, f1, h1, d1⟩ := S.own hi
  exact ⟨_, e1, q p vs F H (.refl S.fh) (.inl (.inl h1)) d1⟩
theorem RdD.sq (h : RdD K w te δ (.list ds)) (sc : ∀ d ∈ ds, (scV d).isSome = true) : SqD K w te δ ds := fun _ _ _ F H σ S Q q => h _ _ _ _ _ _ S _ fun v F2 H2 s e => by
  obtain ⟨a, vs, rfl, hs, hd⟩ := dp_list e
  exact q a vs F2 H2 s hs (da_sc hd sc)
theorem SqD.rd (h : SqD K w te δ ds) : RdD K w te δ (.list ds) := fun _ _ _ F H σ S Q q => h _ _ _ _ _ _ S _ fun a vs F2 H2 s hs hd => q _ F2 H2 s (.lst hs (da_up s.fh _ _ hd))
instance : CoeOut (EvD K w te δ d) (RdD K w te δ d) := ⟨EvD.rd⟩
instance : CoeOut (EvO K w te δ ds) (EvD K w te δ (.list ds)) := ⟨EvO.ev⟩
instance : CoeOut (EvO K w te δ ds) (RdD K w te δ (.list ds)) := ⟨EvO.rd⟩
instance : CoeOut (EvO K w te δ ds) (SqD K w te δ ds) := ⟨EvO.sq⟩
instance : CoeOut (EvD K w te δ (.list ds)) (SqD K w te δ ds) := ⟨EvD.sq⟩
theorem rd_var {i : Nat} (h : δ[i]? = some (.d d)) : RdD K w (tVar i) δ d := (ev_var h).rd
theorem rd_int {i : Int} : RdD K w (tC (.int i)) δ (.int i) := ev_int.rd
theorem rd_non : RdD K w (tC .non) δ .none := ev_non.rd
theorem rd_bl {b : Bool} : RdD K w (tC (.bl b)) δ (.bool b) := ev_bl.rd
theorem rd_str {z : Str} : RdD K w (tC (.str z)) δ (.str z) := ev_str.rd
theorem run_no {b : Bool} (h : TsB K w tt δ b) (e : b = false) (h2 : Run K w u δ nx rt bk ct) : Run K w (tIfS tt t u) δ nx rt bk ct := run_if h (fun z => by rw [e] at z; cases z) fun _ => h2
theorem run_yes {b : Bool} (h : TsB K w tt δ b) (e : b = true) (h2 : Run K w t δ nx rt bk ct) : Run K w (tIfS tt t u) δ nx rt bk ct := run_if h (fun _ => h2) fun z => by rw [e] at z; cases z
/-- a statement behind which the slots are known -/
theorem run_seq1 {δ1 : List Slot} (h : Run K w t δ (fun z => z = δ1) rt bk ct) (h2 : Run K w u δ1 nx rt bk ct) : Run K w (tSeq t u) δ nx rt bk ct := run_seq h fun δ' e => by rw [e]; exact h2
theorem new_eo {F H F2 H2 : Hp} {p : Addr} {vs : List V} {Q : VK} (s : Stp m0 F H F2 H2) (hp : H2 p = none) (hd : DpAll K F2 vs ds)
    (q : ∀ p vs F2 H2, Stp m0 F H F2 H2 → F2 p = none → H p = none → H2 p = some (.lst vs) → DpAll K F2 vs ds → Q (.ref p) H2) : Q (.ref p) (upd H2 p (.lst vs)) :=
  q p vs F2 _ (s.trans (.mk1 s.fh hp)) (s.fh.free hp) (by
    cases e1 : H p with
    | none => rfl
    | some o => rw [s.hs _ _ e1] at hp; cases hp) upd_same hd
theorem eo_cat (ha : SqD K w ta δ xs) (hb : SqD K w tb δ ys) (hl : xs.length + ys.length ≤ 100000) : EvO K w (tOp (rCatL K) ta tb) δ (xs ++ ys) := fun _ _ _ F H σ S Q q =>
  ha _ _ _ _ _ _ S _ fun a vs F2 H2 s hs hd => hb _ _ _ _ _ _ (S.up s) _ fun b us F3 H3 s2 hs2 hd2 =>
    ⟨a, b, vs, us, rfl, rfl, s2.hs.seq hs, hs2, by rw [da_len hd, da_len hd2]; exact small_line hl, fun p hp => new_eo (s.trans s2) hp (da_app (da_up s2.ff _ _ hd) hd2) q⟩
theorem ev_ixO {i : Int} (ha : SqD K w ta δ ds) (hb : RdD K w tb δ (.int i)) (e : atI ds i = some d) : EvD K w (tOp (rIxL K) ta tb) δ d := fun _ _ _ F H _ S Q q =>
  ha _ _ _ _ _ _ S _ fun a vs F2 H2 s hs hd => hb _ _ _ _ _ _ (S.up s) _ fun u F3 H3 s2 e2 => by
    obtain ⟨v, g1, g2⟩ := at_da (da_up s2.ff _ _ hd) e
    exact ⟨a, vs, i, v, rfl, dp_int e2, s2.hs.seq hs, g1, q v F3 H3 (s.trans s2) g2⟩
theorem ev_catT (ha : EvD K w ta δ (.tuple xs)) (hb : EvD K w tb δ (.tuple ys)) (hl : xs.length + ys.length ≤ 100000) : EvD K w (tOp (rCatN K) ta tb) δ (.tuple (xs ++ ys)) := fun _ _ _ F H σ S Q q =>
  ha _ _ _ _ _ _ S _ fun v F2 H2 s e => hb _ _ _ _ _ _ (S.up s) _ fun u F3 H3 s2 e2 => by
    obtain ⟨a, vs, rfl, hs, hd⟩ := dp_tuple (dp_up s2.ff _ _ e)
    obtain ⟨b, us, rfl, hs2, hd2⟩ := dp_tuple e2
    refine ⟨a, b, vs, us, rfl, rfl, sqt_up s2.fh hs, sqt_up s2.fh hs2, by rw [da_len hd, da_len hd2]; exact small_line hl, fun z => ?_, fun z z2 => ?_, fun z z2 p hp o ho => ?_⟩
    · subst z
      cases hd
      exact q _ F3 H3 (s.trans s2) e2
    · subst z2
      cases hd2
      rw [List.append_nil] at q
      exact q _ F3 H3 (s.trans s2) (dp_up s2.ff _ _ e)
    · exact q _ (upd F3 p (.frz o (.tup (vs ++ us)))) _ ((s.trans s2).trans (.frz s2.fh hp (ok_tup ho))) (.tup (.inl (.inr ⟨_, upd_same⟩)) (da_up (same_new (s2.fh.free hp)) _ _ (da_app hd hd2)))
abbrev rLstOf (K : PySem.W.Frag) : List V → Hp → VK → Prop := fun xs H Q => ∃ p ys, xs = [.ref p] ∧ (SqL K H p ys ∨ SqT K H p ys) ∧ ∀ l, H l = none → Q (.ref l) (upd H l (.lst ys))
theorem ev_tupleOf (ha : SqD K w ta δ ds) : EvD K w (tCB (rTupOfN K) (tCons ta tNil)) δ (.tuple ds) := fun _ _ _ F H σ S Q q =>
  ha _ _ _ _ _ _ S _ fun a vs F2 H2 s hs hd => ⟨a, vs, rfl, .inl ⟨hs, fun p hp o ho => q _ (upd F2 p (.frz o (.tup vs))) _ (s.trans (.frz s.fh hp (ok_tup ho))) (.tup (.inl (.inr ⟨_, upd_same⟩)) (da_up (same_new (s.fh.free hp)) _ _ hd))⟩⟩
theorem ev_tupleT (ha : EvD K w ta δ (.tuple ds)) : EvD K w (tCB (rTupOfN K) (tCons ta tNil)) δ (.tuple ds) := fun _ _ _ F H σ S Q q =>
  ha _ _ _ _ _ _ S _ fun v F2 H2 s e => by
    obtain ⟨a, vs, rfl, hs, hd⟩ := dp_tuple e
    exact ⟨a, vs, rfl, .inr ⟨sqt_up s.fh hs, q _ F2 H2 s e⟩⟩
theorem eo_listOf (ha : SqD K w ta δ ds) : EvO K w (tCB (rLstOf K) (tCons ta tNil)) δ ds := fun _ _ _ F H σ S Q q =>
  ha _ _ _ _ _ _ S _ fun a vs F2 H2 s hs hd => ⟨a, vs, rfl, .inl hs, fun p hp => new_eo s hp hd q⟩
theorem eo_listT (ha : EvD K w ta δ (.tuple ds)) : EvO K w (tCB (rLstOf K) (tCons ta tNil)) δ ds := fun _ _ _ F H σ S Q q =>
  ha _ _ _ _ _ _ S _ fun v F2 H2 s e => by
    obtain ⟨a, vs, rfl, hs, hd⟩ := dp_tuple e
    exact ⟨a, vs, rfl, .inr (sqt_up s.fh hs), fun p hp => new_eo s hp hd q⟩
/-! slices -/
def PtD (K : PySem.W.Frag) (w : World) (to : TO) (δ : List Slot) (o : Option Int) : Prop := ∀ F0 H0 m F H σ, Sig K w F0 H0 m F H σ δ → ∀ Q : Option Int → Hp → Prop, (∀ F2 H2, Stp m0 F H F2 H2 → Q o H2) → to σ H Q
theorem pt_no : PtD K w tNoPart δ none := fun _ _ _ F H σ S Q q => q F H (.refl S.fh)
theorem pt_yes {i : Int} (h : RdD K w te δ (.int i)) : PtD K w (tPart te) δ (some i) := fun _ _ _ F H σ S Q q => h _ _ _ _ _ _ S _ fun v F2 H2 s e => ⟨i, dp_int e, q F2 H2 s⟩
def cutD (xs : List PD) (lo hi : Option Int) : List PD := (xs.drop (HT.sIx xs.length 0 lo)).take (HT.sIx xs.length xs.length hi - HT.sIx xs.length 0 lo)
theorem da_cut {H : Hp} {vs : List V} {lo hi : Option Int} (h : DpAll K H vs ds) : DpAll K H (cutV vs lo hi) (cutD ds lo hi) := by
  unfold cutV cutD
  rw [da_len h]
  exact da_take _ (da_drop _ h)
theorem eo_sl {tl th : TO} {lo hi : Option Int} (ha : SqD K w ta δ ds) (h1 : PtD K w tl δ lo) (h2 : PtD K w th δ hi) : EvO K w (tSl (rSlL K) ta tl th) δ (cutD ds lo hi) := fun _ _ _ F H σ S Q q =>
  ha _ _ _ _ _ _ S _ fun a vs F2 H2 s hs hd => h1 _ _ _ _ _ _ (S.up s) _ fun F3 H3 s2 => h2 _ _ _ _ _ _ ((S.up s).up s2) _ fun F4 H4 s3 =>
    ⟨a, vs, rfl, s3.hs.seq (s2.hs.seq hs), fun p hp => new_eo ((s.trans s2).trans s3) hp (da_cut (da_up (s2.ff.trans s3.ff) _ _ hd)) q⟩
theorem ev_slT {tl th : TO} {lo hi : Option Int} (ha : EvD K w ta δ (.tuple ds)) (h1 : PtD K w tl δ lo) (h2 : PtD K w th δ hi) : EvD K w (tSl (rSlN K) ta tl th) δ (.tuple (cutD ds lo hi)) := fun _ _ _ F H σ S Q q =>
  ha _ _ _ _ _ _ S _ fun v F2 H2 s e => h1 _ _ _ _ _ _ (S.up s) _ fun F3 H3 s2 => h2 _ _ _ _ _ _ ((S.up s).up s2) _ fun F4 H4 s3 => by
    have e4 := dp_up (s2.ff.trans s3.ff) _ _ e
    obtain ⟨a, vs, rfl, hs, hd⟩ := dp_tuple e4
    have l := da_len hd
    refine ⟨a, vs, rfl, sqt_up s3.fh hs, fun z => ?_, fun z p hp o ho => ?_⟩
    · have ec : cutD ds lo hi = ds := by
        unfold cutD
        rw [← l, z.1, z.2, List.drop_zero, Nat.sub_zero, l, List.take_length]
      rw [ec] at q
      exact q _ F4 H4 ((s.trans s2).trans s3) e4
    · exact q _ (upd F4 p (.frz o (.tup (cutV vs lo hi)))) _ (((s.trans s2).trans s3).trans (.frz s3.fh hp (ok_tup ho))) (.tup (.inl (.inr ⟨_, upd_same⟩)) (da_up (same_new (s3.fh.free hp)) _ _ (da_cut hd)))
/-! sets of ints -/
theorem run_set1 {i : Nat} {k : Int} (h : EvD K w te δ (.int k)) (n : nx (δ.set i (.set (fun j => decide (j = k)) 1))) : Run K w (tAsg (tSet1 w te) (gName i)) δ nx rt bk ct := fun F0 H0 m F H σ S D a _ _ _ => fun p hp => by
  have s1 : Stp m0 F H F (upd H p (SetO w p (fun _ => false) 0)) := .mk1 S.fh hp
  refine h _ _ _ _ _ _ (S.up s1) _ fun v F2 H2 s e => ?_
  have h2 : H2 p = some (SetO w p (fun _ => false) 0) := s.hs _ _ upd_same
  have f2 : F2 p = none := s.nj p (S.fh.free hp) (by rw [upd_same]; exact fun z => nomatch z)
  refine ⟨k, dp_int e, h2, ?_⟩
  have e2 : (fun j => false || decide (j = k)) = fun j : Int => decide (j = k) := funext fun j => Bool.false_or _
  rw [e2]
  have st : Stp m0 F H F2 (upd H2 p (SetO w p (fun j => decide (j = k)) 1)) := ⟨s.ff, fun b o eb => by
      rw [upd_ne (ne_of_none eb f2)]
      exact s.fh b o eb, fun b o _ eb => by
      rw [upd_ne (ne_of_none eb hp)]
      exact s.hs b o (same_new hp b o eb), fun b eb nb => s.nj b eb (up_some nb), fun b nb => up_some (s.hn b (up_some nb)), fun nd => (s.nd (nd.put ok_seto)).put ok_seto⟩
  refine a _ F2 _ _ n s.ff ((S.up st).setM i ⟨p, rfl, f2, upd_same⟩ rfl (new_loc S hp) fun j sj _ ej mj eq => ?_)
  obtain ⟨p', e1, _⟩ := S.ref ej mj
  rw [e1] at eq
  cases eq
  have q := S.ok j sj ej
  rw [e1] at q
  cases sj with
  | emp => cases mj
  | d x => cases mj
  | own b xs => obtain ⟨_, _, h1, _, h3, _⟩ := q; cases h1; rw [hp] at h3; cases h3
  | gen b' n => obtain ⟨_, h1, _, _, _, _, h3, _⟩ := q; cases h1; rw [hp] at h3; cases h3
  | set S' n => obtain ⟨_, h1, _, h3⟩ := q; cases h1; rw [hp] at h3; cases h3
  | ob o9 => obtain ⟨_, h1, _, h3⟩ := q; cases h1; rw [hp] at h3; cases h3
abbrev rSet0' (w : World) : List V → Hp → VK → Prop := rSet0 w
theorem run_set0 {i : Nat} (n : nx (δ.set i (.set (fun _ => false) 0))) : Run K w (tAsg (tCB (rSet0 w) tNil) (gName i)) δ nx rt bk ct := fun F0 H0 m F H σ S D a _ _ _ => ⟨rfl, fun p hp => by
  have s1 : Stp m0 F H F (upd H p (SetO w p (fun _ => false) 0)) := .mk1 S.fh hp
  refine a _ F _ _ n (Same.refl F) ((S.up s1).setM i ⟨p, rfl, S.fh.free hp, upd_same⟩ rfl (new_loc S hp) fun j sj _ ej mj eq => ?_)
  obtain ⟨p', e1, _⟩ := S.ref ej mj
  rw [e1] at eq
  cases eq
  have q := S.ok j sj ej
  rw [e1] at q
  cases sj with
  | emp => cases mj
  | d x => cases mj
  | own b xs => obtain ⟨_, _, h1, _, h3, _⟩ := q; cases h1; rw [hp] at h3; cases h3
  | gen b' n => obtain ⟨_, h1, _, _, _, _, h3, _⟩ := q; cases h1; rw [hp] at h3; cases h3
  | set S' n => obtain ⟨_, h1, _, h3⟩ := q; cases h1; rw [hp] at h3; cases h3
  | ob o9 => obtain ⟨_, h1, _, h3⟩ := q; cases h1; rw [hp] at h3; cases h3⟩
theorem Sig.aset {F0 H0 F H : Hp} {m : Addr → Prop} {σ : L2.St} (S : Sig K w F0 H0 m F H σ δ) {i : Nat} {S' : Int → Bool} {n : Nat} (hi : δ[i]? = some (.set S' n)) : ∃ p, σ[i]? = some (some (.ref p)) ∧ F p = none ∧ H p = some (SetO w p S' n) := by
  obtain ⟨p, e, f⟩ := S.ref hi rfl
  obtain ⟨p', h1, h2, h3⟩ := S.ok i _ hi
  rw [e] at h1
  cases h1
  exact ⟨p, e, f, h3⟩
theorem run_sadd {i : Nat} {k : Int} {S' : Int → Bool} {n : Nat} (hi : δ[i]? = some (.set S' n)) (h : EvD K w te δ (.int k)) (hn : n < 4000) (c : nx (δ.set i (.set (fun j => S' j || decide (j = k)) (if S' k = true then n else n + 1)))) :
    Run K w (tDrop (tSAdd w (tVar i) (tCons te tNil))) δ nx rt bk ct := fun _ _ _ F H σ S D a _ _ _ => by
  obtain ⟨p, e1, f1, h1⟩ := S.aset hi
  refine ⟨_, e1, ⟨p, S', n, rfl, h1⟩, h _ _ _ _ _ _ S _ fun v F2 H2 s e => ?_⟩
  have f2 : F2 p = none := s.nj p f1 (by rw [h1]; exact fun z => nomatch z)
  have h2 : H2 p = some (SetO w p S' n) := s.hs _ _ h1
  refine ⟨p, k, S', n, rfl, by rw [dp_int e], h2, Nat.lt_of_lt_of_le (Nat.succ_lt_succ hn) (by decide), ?_⟩
  exact a _ F2 _ σ c s.ff ((S.up s).chg hi rfl e1 f2 (by rw [h2]; exact fun z => nomatch z) ⟨p, rfl, f2, upd_same⟩ rfl rfl)
theorem ev_sin {i : Nat} {k : Int} {S' : Int → Bool} {n : Nat} (hi : δ[i]? = some (.set S' n)) (h : RdD K w te δ (.int k)) : EvD K w (tOp (rSIn w) te (tVar i)) δ (.bool (S' k)) := fun _ _ _ F H σ S Q q =>
  h _ _ _ _ _ _ S _ fun v F2 H2 s e => by
    obtain ⟨p, e1, f1, h1⟩ := (S.up s).aset hi
    exact ⟨_, e1, k, p, S', n, dp_int e, rfl, h1, q _ F2 H2 s (.bl _)⟩
theorem ev_snotin {i : Nat} {k : Int} {S' : Int → Bool} {n : Nat} (hi : δ[i]? = some (.set S' n)) (h : RdD K w te δ (.int k)) : EvD K w (tOp (rSNotIn w) te (tVar i)) δ (.bool (!S' k)) := fun _ _ _ F H σ S Q q =>
  h _ _ _ _ _ _ S _ fun v F2 H2 s e => by
    obtain ⟨p, e1, f1, h1⟩ := (S.up s).aset hi
    exact ⟨_, e1, k, p, S', n, dp_int e, rfl, h1, q _ F2 H2 s (.bl _)⟩
theorem da_ints {H : Hp} : ∀ ns : List Int, DpAll K H (ns.map V.int) (ns.map PyData.int)
  | [] => .nil
  | n :: ns => .cons (.int n) (da_ints ns)
theorem ints_da {H : Hp} : ∀ {ns : List Int} {vs : List V}, DpAll K H vs (ns.map PyData.int) → vs = ns.map V.int
  | [], _, h => by cases h; rfl
  | n :: ns, _, h => by
    cases h with
    | cons r t => cases r; rw [ints_da t]; rfl
/-- sorted(s), s a set of ints of one's own: the answer is the one ascending list -/
theorem eo_sortedSet {i : Nat} {S' : Int → Bool} {n : Nat} {ns : List Int} (hi : δ[i]? = some (.set S' n)) (hn : n < 64) (h1 : ns.Pairwise (· < ·)) (h2 : ∀ k : Int, k ∈ ns ↔ S' k = true) : EvO K w (tCB (rSortedSet w) (tCons (tVar i) tNil)) δ (ns.map .int) := fun _ _ _ F H σ S Q q => by
  obtain ⟨p, e1, f1, hp⟩ := S.aset hi
  refine ⟨_, e1, p, S', n, rfl, hp, hn, fun ms p' o1 o2 o3 hp' => ?_⟩
  have e : ms = ns := List.Perm.eq_of_pairwise (le := (· < ·)) (fun a b _ _ h h' => absurd (Int.lt_trans h h') (Int.lt_irrefl _)) o1 h1 ((List.perm_ext_iff_of_nodup (o1.imp fun h => Int.ne_of_lt h) (h1.imp fun h => Int.ne_of_lt h)).mpr fun k => (o2 k).trans (h2 k).symm)
  subst e
  exact new_eo (.refl S.fh) hp' (da_ints ms) q
/-! sorted, max, min, sum of lists of ints -/
theorem eo_sorted {ns ms : List Int} (h : RdD K w te δ (.list (ns.map .int))) (hp : ms.Perm ns) (hs : ms.Pairwise (· ≤ ·)) : EvO K w (tCB (rSortedI K) (tCons te tNil)) δ (ms.map .int) := fun _ _ _ F H σ S Q q =>
  h _ _ _ _ _ _ S _ fun v F2 H2 s e => by
    obtain ⟨a, vs, rfl, hq, hd⟩ := dp_list e
    rw [ints_da hd] at hq
    refine ⟨a, ns, rfl, hq, fun ns' p o1 o2 hp' => ?_⟩
    have e : ns' = ms := List.Perm.eq_of_pairwise (le := (· ≤ ·)) (fun a b _ _ h h' => Int.le_antisymm h h') o2 hs (o1.trans hp.symm)
    subst e
    exact new_eo s hp' (da_ints ns') q
theorem ev_sum {ns : List Int} (h : RdD K w te δ (.list (ns.map .int))) : EvD K w (tCB (rSum K) (tCons te tNil)) δ (.int ns.sum) :=
  rd_call (ra_cons h ra_nil) (fun H => .int _) fun H vs h Q q => by
    obtain ⟨v, rfl, r⟩ := da1 h
    obtain ⟨a, us, rfl, hq, hd⟩ := dp_list r
    rw [ints_da hd] at hq
    exact ⟨a, ns, rfl, hq, q⟩
end
end MU

namespace MU
open PySem PySem.Spec L2
/-! ## a drawing list that turns -/
abbrev gmax : Int := 1000000000000
def spG (K : PySem.W.Frag) (l : Nat) (k : Int) (R : List PD → (PD → Prop) → Prop) : Sp := fun vs H Q _ => ∃ F g n us ds P, vs = .ref g :: us ∧ Fz F H ∧ F g = none ∧ GenAt H g n ∧ n + k ≤ gmax ∧ DpAll K F us ds ∧ ds.length + 1 = l ∧ R ds P ∧
  ∀ d v F2 H2, P d → Stp (fun a => a = g) F H F2 H2 → GenAt H2 g (n + k) → Dp K F2 v d → Q v H2
theorem len_G {K : PySem.W.Frag} {l : Nat} {k : Int} {R : List PD → (PD → Prop) → Prop} : ∀ vs H Q E, spG K l k R vs H Q E → vs.length = l := fun vs H Q E ⟨_, _, _, _, _, _, e, _, _, _, _, h, z, _⟩ => by rw [e, List.length_cons, da_len h, z]
section
variable {K : PySem.W.Frag} {w : World} {δ δ' : List Slot} {te ta tb : TE} {tt : TT} {t u : TS} {tz : TA} {d x y : PD} {ds es xs ys : List PD} {nx nx' mid bk ct : PN} {rt : List Slot → Ret → Prop} {g : TG} {wi : TI} {P P1 P2 : PD → Prop} {PA PB : List PD → Prop} {i : Nat} {b : Bool} {n n1 n2 : Int}
/-- the drawing list at g has turned -/
theorem Sig.turn {F0 H0 F H F2 H2 : Hp} {m : Addr → Prop} {σ : L2.St} {g : Addr} (S : Sig K w F0 H0 m F H σ (δ.set i (.gen b n))) (hi : i < δ.length) (hg : σ[i]? = some (some (.ref g))) (st : Stp (fun a => a = g) F H F2 H2) (G : GenAt H2 g n2) :
    Sig K w F0 H0 m F2 H2 σ (δ.set i (.gen b n2)) := by
  have e0 : (δ.set i (.gen b n))[i]? = some (.gen b n) := List.getElem?_set_self hi
  have fr := S.fr i _ g e0 rfl hg
  have F1 : F g = none := by
    obtain ⟨p, e, f⟩ := S.ref e0 rfl
    rw [hg] at e
    cases e
    exact f
  have Hg : H g ≠ none := by
    obtain ⟨p, e, f, a, s, c, h, _⟩ := S.ok i _ e0
    rw [hg] at e
    cases e
    rw [h]
    exact fun z => nomatch z
  have F2g : F2 g = none := st.nj g F1 Hg
  have slot : ∀ (j : Nat) (s : Slot), i ≠ j → (δ.set i (.gen b n2))[j]? = some s → (δ.set i (.gen b n))[j]? = some s := fun j s z e => by
    rw [List.getElem?_set_ne z] at e ⊢
    exact e
  have self : (δ.set i (.gen b n2))[i]? = some (.gen b n2) := List.getElem?_set_self hi
  refine ⟨⟨S.st.ff.trans st.ff, st.fh, fun a o na e => ?_, fun a e na => st.nj a (S.st.nj a e na) (S.st.hn a na), fun a na => st.hn a (S.st.hn a na), fun nd => st.nd (S.st.nd nd)⟩, by have := S.len; rw [List.length_set] at this ⊢; exact this, fun j s e => ?_, fun j k si sj v jk ej ek mj mk => ?_, fun j s p e ms ep => ?_, S.n0⟩
  · refine st.hh a o (fun z => ?_) (S.st.hh a o na e)
    subst z
    cases q : b with
    | false => exact na (fr.2 (by rw [q]; rfl))
    | true => rw [fr.1 (by rw [q]; rfl)] at e; cases e
  · by_cases z : i = j
    · subst z
      rw [self] at e
      cases e
      rw [hg]
      exact ⟨g, rfl, F2g, G⟩
    · have e' := slot j s z e
      have q := S.ok j s e'
      cases s with
      | emp => exact trivial
      | d x => obtain ⟨v, h1, h2⟩ := q; exact ⟨v, h1, dp_up st.ff _ _ h2⟩
      | own b xs =>
        obtain ⟨p, vs, h1, h2, h3, h4⟩ := q
        have ne : p ≠ g := fun y => by
          subst y
          refine S.dis i j _ _ _ z e0 e' rfl rfl hg ?_
          cases e1 : σ[j]? with
          | none => rw [e1] at h1; cases h1
          | some o => rw [e1] at h1; exact congrArg some h1
        exact ⟨p, vs, h1, st.nj p h2 (by rw [h3]; exact fun z => nomatch z), st.hh p _ ne h3, da_up st.ff _ _ h4⟩
      | gen b' n' =>
        obtain ⟨p, h1, h2, a, b, c, h3, h4⟩ := q
        have ne : p ≠ g := fun y => by
          subst y
          refine S.dis i j _ _ _ z e0 e' rfl rfl hg ?_
          cases e1 : σ[j]? with
          | none => rw [e1] at h1; cases h1
          | some o => rw [e1] at h1; exact congrArg some h1
        exact ⟨p, h1, st.nj p h2 (by rw [h3]; exact fun z => nomatch z), a, b, c, st.hh p _ ne h3, h4⟩
      | set S' n' =>
        obtain ⟨p, h1, h2, h3⟩ := q
        have ne : p ≠ g := fun y => by
          subst y
          refine S.dis i j _ _ _ z e0 e' rfl rfl hg ?_
          cases e1 : σ[j]? with
          | none => rw [e1] at h1; cases h1
          | some o => rw [e1] at h1; exact congrArg some h1
        exact ⟨p, h1, st.nj p h2 (by rw [h3]; exact fun z => nomatch z), st.hh p _ ne h3⟩
      | ob o9 =>
        obtain ⟨p, h1, h2, h3⟩ := q
        have ne : p ≠ g := fun y => by
          subst y
          refine S.dis i j _ _ _ z e0 e' rfl rfl hg ?_
          cases e1 : σ[j]? with
          | none => rw [e1] at h1; cases h1
          | some o => rw [e1] at h1; exact congrArg some h1
        exact ⟨p, h1, st.nj p h2 (by rw [h3]; exact fun z => nomatch z), st.hh p _ ne h3⟩
  · have mtx : ∀ (l : Nat) (sl : Slot), (δ.set i (.gen b n2))[l]? = some sl → sl.mt = true → ∃ s2, (δ.set i (.gen b n))[l]? = some s2 ∧ s2.mt = true := fun l sl e1 e2 => by
      by_cases z : i = l
      · subst z; exact ⟨_, e0, rfl⟩
      · exact ⟨sl, slot l sl z e1, e2⟩
    obtain ⟨s1, a1, b1⟩ := mtx j si ej mj
    obtain ⟨s2, a2, b2⟩ := mtx k sj ek mk
    exact S.dis j k s1 s2 v jk a1 a2 b1 b2
  · by_cases z : i = j
    · subst z
      rw [self] at e
      cases e
      have q := S.fr i (.gen b n) p e0 rfl ep
      exact q
    · exact S.fr j s p (slot j s z e) ms ep
/-- an expression that draws: what it may be worth -/
def EvG (K : PySem.W.Frag) (w : World) (te : TE) (δ : List Slot) (i : Nat) (b : Bool) (n n2 : Int) (P : PD → Prop) : Prop := ∀ F0 H0 m F H σ g, Sig K w F0 H0 m F H σ (δ.set i (.gen b n)) → i < δ.length → σ[i]? = some (some (.ref g)) →
  ∀ Q : VK, (∀ d v F2 H2, P d → Stp (fun a => a = g) F H F2 H2 → Sig K w F0 H0 m F2 H2 σ (δ.set i (.gen b n2)) → Dp K F2 v d → Q v H2) → te σ H Q
def EvGA (K : PySem.W.Frag) (w : World) (tz : TA) (δ : List Slot) (i : Nat) (b : Bool) (n n2 : Int) (P : List PD → Prop) : Prop := ∀ F0 H0 m F H σ g, Sig K w F0 H0 m F H σ (δ.set i (.gen b n)) → i < δ.length → σ[i]? = some (some (.ref g)) →
  ∀ Q : List V → Hp → Prop, (∀ ds vs F2 H2, P ds → Stp (fun a => a = g) F H F2 H2 → Sig K w F0 H0 m F2 H2 σ (δ.set i (.gen b n2)) → DpAll K F2 vs ds → Q vs H2) → tz σ H Q
def TsG (K : PySem.W.Frag) (w : World) (tt : TT) (δ : List Slot) (i : Nat) (b : Bool) (n n2 : Int) (P : Bool → Prop) : Prop := ∀ F0 H0 m F H σ g, Sig K w F0 H0 m F H σ (δ.set i (.gen b n)) → i < δ.length → σ[i]? = some (some (.ref g)) →
  ∀ Q : Bool → Hp → Prop, (∀ bb F2 H2, P bb → Stp (fun a => a = g) F H F2 H2 → Sig K w F0 H0 m F2 H2 σ (δ.set i (.gen b n2)) → Q bb H2) → tt σ H Q
theorem EvG.imp {P' : PD → Prop} (h : EvG K w te δ i b n n2 P) (p : ∀ d, P d → P' d) : EvG K w te δ i b n n2 P' := fun _ _ _ _ _ _ _ S hi hg Q q => h _ _ _ _ _ _ _ S hi hg Q fun d v F2 H2 a => q d v F2 H2 (p d a)
theorem eg_pure (h : EvD K w te (δ.set i (.gen b n)) d) : EvG K w te δ i b n n (fun z => z = d) := fun _ _ _ F H σ g S hi hg Q q => h _ _ _ _ _ _ S _ fun v F2 H2 s e => q d v F2 H2 rfl s.wk (S.up s) e
theorem ega_pure (h : EvA K w tz (δ.set i (.gen b n)) ds) : EvGA K w tz δ i b n n (fun z => z = ds) := fun _ _ _ F H σ g S hi hg Q q => h _ _ _ _ _ _ S _ fun v F2 H2 s e => q ds v F2 H2 rfl s.wk (S.up s) e
theorem ega_nil : EvGA K w tNil δ i b n n (fun z => z = []) := ega_pure ea_nil
theorem ega_cons (h : EvG K w te δ i b n n1 P) (h2 : EvGA K w tz δ i b n1 n2 PA) : EvGA K w (tCons te tz) δ i b n n2 (fun z => ∃ d r, z = d :: r ∧ P d ∧ PA r) := fun _ _ _ F H σ g S hi hg Q q =>
  h _ _ _ _ _ _ _ S hi hg _ fun d v F2 H2 p s S2 e => h2 _ _ _ _ _ _ _ S2 hi hg _ fun ds vs F3 H3 p2 s2 S3 e2 => q (d :: ds) (v :: vs) F3 H3 ⟨d, ds, rfl, p, p2⟩ (s.trans s2) S3 (.cons (dp_up s2.ff _ _ e) e2)
theorem ega_cons2 {PB : PD → List PD → Prop} (h : EvG K w te δ i b n n1 P) (h2 : ∀ d, P d → EvGA K w tz δ i b n1 n2 (PB d)) : EvGA K w (tCons te tz) δ i b n n2 (fun z => ∃ d r, z = d :: r ∧ P d ∧ PB d r) := fun _ _ _ F H σ g S hi hg Q q =>
  h _ _ _ _ _ _ _ S hi hg _ fun d v F2 H2 p s S2 e => h2 d p _ _ _ _ _ _ _ S2 hi hg _ fun ds vs F3 H3 p2 s2 S3 e2 => q (d :: ds) (v :: vs) F3 H3 ⟨d, ds, rfl, p, p2⟩ (s.trans s2) S3 (.cons (dp_up s2.ff _ _ e) e2)
/-- f(g, ..), f a def that draws -/
theorem eg_call {l : Nat} {k : Int} {R : List PD → (PD → Prop) → Prop} {E : XK} (h : EvGA K w tz δ i b n n1 PA) (hn : n1 + k ≤ gmax) (r : ∀ ds, PA ds → ds.length + 1 = l ∧ R ds P) : EvG K w (tCall (spG K l k R) [] E (tCons (tVar i) tz)) δ i b n (n1 + k) P := fun _ _ _ F H σ g S hi hg Q q => by
  refine ⟨_, hg, h _ _ _ _ _ _ _ S hi hg _ fun ds vs F2 H2 p s S2 e => ?_⟩
  have e0 : (δ.set i (.gen b n1))[i]? = some (.gen b n1) := List.getElem?_set_self hi
  obtain ⟨p', e1, f1, G⟩ := S2.ok i _ e0
  rw [hg] at e1
  cases e1
  refine ⟨F2, g, n1, vs, ds, P, by rw [List.append_nil], S2.fz, f1, G, hn, e, (r ds p).1, (r ds p).2, fun d v F3 H3 pd s3 G3 e3 => ?_⟩
  exact q d v F3 H3 pd (s.trans s3) (S2.turn hi hg s3 G3) e3
/-- f(..), f a def that does not draw, its arguments do -/
theorem eg_callP {l : Nat} {R : List PD → PD → Prop} {E : XK} (h : EvGA K w tz δ i b n n1 PA) (r : ∀ ds, PA ds → ds.length = l ∧ ∃ d, R ds d ∧ P d) : EvG K w (tCall (spS K l R) [] E tz) δ i b n n1 P := fun _ _ _ F H σ g S hi hg Q q =>
  h _ _ _ _ _ _ _ S hi hg _ fun ds vs F2 H2 p s S2 e => by
    obtain ⟨hl, d, rd, pd⟩ := r ds p
    exact ⟨F2, ds, d, S2.fz, by rw [List.append_nil]; exact e, hl, rd, fun v F3 H3 s3 e3 => q d v F3 H3 pd (s.trans s3.wk) (S2.up s3) e3⟩
theorem eg_op2 {r : R2} (h : EvG K w ta δ i b n n1 P1) (h2 : EvG K w tb δ i b n1 n2 P2) (hr : ∀ x y, P1 x → P2 y → ∃ z e, P e ∧ (∀ H : Hp, Dp K H z e) ∧ ∀ (H : Hp) (v u : V), Dp K H v x → Dp K H u y → ∀ Q : VK, Q z H → r v u H Q) : EvG K w (tOp r ta tb) δ i b n n2 P := fun _ _ _ F H σ g S hi hg Q q =>
  h _ _ _ _ _ _ _ S hi hg _ fun x v F2 H2 p s S2 e => h2 _ _ _ _ _ _ _ S2 hi hg _ fun y u F3 H3 p2 s2 S3 e2 => by
    obtain ⟨z, e3, pe, dz, hrr⟩ := hr x y p p2
    exact hrr H3 v u (dp_up (s2.ff.trans S3.fh) _ _ e) (dp_up S3.fh _ _ e2) Q (q e3 z F3 H3 pe (s.trans s2) S3 (dz F3))
theorem eg_int2 {f : Int → Int → V} (h : EvG K w ta δ i b n n1 P1) (h2 : EvG K w tb δ i b n1 n2 P2) (hr : ∀ x y, P1 x → P2 y → ∃ a b e, x = .int a ∧ y = .int b ∧ P e ∧ ∀ H : Hp, Dp K H (f a b) e) : EvG K w (tOp (rI0 f) ta tb) δ i b n n2 P :=
  eg_op2 h h2 fun x y p q => by
    obtain ⟨a, b, e, rfl, rfl, pe, dz⟩ := hr x y p q
    exact ⟨f a b, e, pe, dz, fun H v u h1 h2 Q q => ⟨a, b, dp_int h1, dp_int h2, q⟩⟩
theorem eg_cb {r : List V → Hp → VK → Prop} (h : EvGA K w tz δ i b n n2 PA) (hr : ∀ ds, PA ds → ∃ z e, P e ∧ (∀ H : Hp, Dp K H z e) ∧ ∀ (H : Hp) (vs : List V), DpAll K H vs ds → ∀ Q : VK, Q z H → r vs H Q) : EvG K w (tCB r tz) δ i b n n2 P := fun _ _ _ F H σ g S hi hg Q q =>
  h _ _ _ _ _ _ _ S hi hg _ fun ds vs F2 H2 p s S2 e => by
    obtain ⟨z, e3, pe, dz, hrr⟩ := hr ds p
    exact hrr H2 vs (da_up S2.fh _ _ e) Q (q e3 z F2 H2 pe s S2 (dz F2))
theorem eg_ixL (h : EvG K w ta δ i b n n1 P1) (h2 : EvG K w tb δ i b n1 n2 P2) (hr : ∀ x y, P1 x → P2 y → ∃ ds k d, x = .list ds ∧ y = .int k ∧ atI ds k = some d ∧ P d) : EvG K w (tOp (rIxL K) ta tb) δ i b n n2 P := fun _ _ _ F H σ g S hi hg Q q =>
  h _ _ _ _ _ _ _ S hi hg _ fun x v F2 H2 p s S2 e => h2 _ _ _ _ _ _ _ S2 hi hg _ fun y u F3 H3 p2 s2 S3 e2 => by
    obtain ⟨ds, k, d, rfl, rfl, ha, pd⟩ := hr x y p p2
    obtain ⟨a, vs, rfl, hs, hd⟩ := dp_list (dp_up s2.ff _ _ e)
    obtain ⟨v', g1, g2⟩ := at_da hd ha
    exact ⟨a, vs, k, v', rfl, dp_int e2, S3.fh.seq hs, g1, q d v' F3 H3 pd (s.trans s2) S3 g2⟩
theorem stp_frz {F H : Hp} {p g : Addr} {o : HO} (h : Same F H) (hp : H p = none) (k : OkO o) : Stp (fun a => a = g) F H (upd F p o) (upd H p o) := Stp.frz h hp k
theorem eg_lst (h : EvGA K w tz δ i b n n2 PA) (hl : ∀ ds, PA ds → ds.length ≤ 100000 ∧ P (.list ds)) : EvG K w (tLst tz) δ i b n n2 P := fun _ _ _ F H σ g S hi hg Q q =>
  h _ _ _ _ _ _ _ S hi hg _ fun ds vs F2 H2 p s S2 e => by
    obtain ⟨l1, pd⟩ := hl ds p
    refine ⟨by rw [da_len e]; exact small_line l1, fun D hD => ?_⟩
    exact q (.list ds) (.ref D) (upd F2 D (.lst vs)) _ pd (s.trans (stp_frz S2.fh hD ok_lst)) (S2.up (.frz S2.fh hD ok_lst)) (.lst (.inl (.inl upd_same)) (da_up (same_new (S2.fh.free hD)) _ _ e))
theorem eg_tup (h : EvGA K w tz δ i b n n2 PA) (hl : ∀ ds, PA ds → ds.length ≤ 100000 ∧ P (.tuple ds)) : EvG K w (tTupN tz) δ i b n n2 P := fun _ _ _ F H σ g S hi hg Q q =>
  h _ _ _ _ _ _ _ S hi hg _ fun ds vs F2 H2 p s S2 e => by
    obtain ⟨l1, pd⟩ := hl ds p
    refine ⟨by rw [da_len e]; exact small_line l1, fun D hD o ho => ?_⟩
    exact q (.tuple ds) (.ref D) (upd F2 D (.frz o (.tup vs))) _ pd (s.trans (stp_frz S2.fh hD (ok_tup ho))) (S2.up (.frz S2.fh hD (ok_tup ho))) (.tup (.inl (.inr ⟨_, upd_same⟩)) (da_up (same_new (S2.fh.free hD)) _ _ e))
/-! statements that draw -/
theorem Sig.gadr {F0 H0 F H : Hp} {m : Addr → Prop} {σ : L2.St} (S : Sig K w F0 H0 m F H σ (δ.set i (.gen b n))) (hi : i < δ.length) : ∃ g, σ[i]? = some (some (.ref g)) := by
  obtain ⟨p, e, _⟩ := S.ref (List.getElem?_set_self hi) rfl
  exact ⟨p, e⟩
theorem run_setG {j : Nat} (h : EvG K w te δ i b n n2 P) (hi : i < δ.length) (c : ∀ d, P d → nx ((δ.set i (.gen b n2)).set j (.d d))) : Run K w (tAsg te (gName j)) (δ.set i (.gen b n)) nx rt bk ct := fun _ _ _ F H σ S D a _ _ _ => by
  obtain ⟨g, hg⟩ := S.gadr hi
  exact h _ _ _ _ _ _ _ S hi hg _ fun d v F2 H2 p s S2 e => a _ F2 H2 _ (c d p) s.ff (S2.setD j e)
theorem run_retG (h : EvG K w te δ i b n n2 P) (hi : i < δ.length) (c : ∀ d, P d → rt (δ.set i (.gen b n2)) (.d d)) : Run K w (tRet te) (δ.set i (.gen b n)) nx rt bk ct := fun _ _ _ F H σ S D _ b _ _ => by
  obtain ⟨g, hg⟩ := S.gadr hi
  exact h _ _ _ _ _ _ _ S hi hg _ fun d v F2 H2 p s S2 e => b _ (.d d) v F2 H2 σ (c d p) s.ff S2 e
theorem run_appendG {j : Nat} {b2 : Bool} (h : EvG K w te δ i b n n2 P) (hi : i < δ.length) (hj : (δ.set i (.gen b n))[j]? = some (.own b2 ds)) (hj2 : (δ.set i (.gen b n2))[j]? = some (.own b2 ds)) (ij : i ≠ j) (hl : ds.length < 100000) (c : ∀ d, P d → nx ((δ.set i (.gen b n2)).set j (.own b2 (ds ++ [d])))) :
    Run K w (tDrop (tBM K "list" rAppend (tVar j) (tCons te tNil))) (δ.set i (.gen b n)) nx rt bk ct := fun _ _ _ F H σ S D a _ _ _ => by
  obtain ⟨g, hg⟩ := S.gadr hi
  obtain ⟨p, vs, e1, f1, h1, d1⟩ := S.own hj
  refine ⟨_, e1, .inl ⟨rfl, vs, .inl (.inl h1)⟩, h _ _ _ _ _ _ _ S hi hg _ fun d v F2 H2 pd s S2 e => ?_⟩
  obtain ⟨p2, vs2, e2, f2, h2, d2⟩ := S2.own hj2
  rw [e1] at e2
  cases e2
  refine ⟨p, vs2, v, rfl, rfl, h2, by rw [da_len d2]; exact lt_line hl, ?_⟩
  exact a _ F2 _ σ (c d pd) s.ff (S2.chg hj2 rfl e1 f2 (by rw [h2]; exact fun z => nomatch z) ⟨p, _, rfl, f2, upd_same, da_app d2 (.cons e .nil)⟩ rfl rfl)
theorem tsg_pure {bb : Bool} (h : TsB K w tt (δ.set i (.gen b n)) bb) : TsG K w tt δ i b n n (fun z => z = bb) := fun _ _ _ F H σ g S hi hg Q q => h _ _ _ _ _ _ S _ fun F2 H2 s => q bb F2 H2 rfl s.wk (S.up s)
theorem tsg_val {PB : Bool → Prop} (h : EvG K w te δ i b n n2 (fun d => ∃ bb, d = .bool bb ∧ PB bb)) : TsG K w (tB te) δ i b n n2 PB := fun _ _ _ F H σ g S hi hg Q q => h _ _ _ _ _ _ _ S hi hg _ fun d v F2 H2 p s S2 e => by
  obtain ⟨bb, rfl, pb⟩ := p
  exact ⟨bb, dp_bool e, q bb F2 H2 pb s S2⟩
theorem tsg_cmp {PB : Bool → Prop} (h : EvG K w te δ i b n n2 (fun d => ∃ bb, d = .bool bb ∧ PB bb)) : TsG K w (tTest te) δ i b n n2 PB := fun _ _ _ F H σ g S hi hg Q q => h _ _ _ _ _ _ _ S hi hg _ fun d v F2 H2 p s S2 e => by
  obtain ⟨bb, rfl, pb⟩ := p
  exact ⟨bb, dp_bool e, q bb F2 H2 pb s S2⟩
theorem tsg_not {PB : Bool → Prop} (h : TsG K w tt δ i b n n2 (fun bb => PB (!bb))) : TsG K w (tNot tt) δ i b n n2 PB := fun _ _ _ F H σ g S hi hg Q q => h _ _ _ _ _ _ _ S hi hg _ fun bb F2 H2 p s S2 => q (!bb) F2 H2 p s S2
theorem run_ifG {PB : Bool → Prop} (h : TsG K w tt δ i b n n2 PB) (hi : i < δ.length) (h1 : PB true → Run K w t (δ.set i (.gen b n2)) nx rt bk ct) (h2 : PB false → Run K w u (δ.set i (.gen b n2)) nx rt bk ct) : Run K w (tIfS tt t u) (δ.set i (.gen b n)) nx rt bk ct := fun _ _ _ F H σ S D a r c e => by
  obtain ⟨g, hg⟩ := S.gadr hi
  refine h _ _ _ _ _ _ _ S hi hg _ fun bb F2 H2 p s S2 => ?_
  cases bb with
  | true => exact h1 p _ _ _ _ _ _ S2 D (fun δ' F3 H3 σ3 q s2 S3 => a δ' F3 H3 σ3 q (s.ff.trans s2) S3) (fun δ' z v F3 H3 σ3 q s2 S3 R => r δ' z v F3 H3 σ3 q (s.ff.trans s2) S3 R) (fun δ' F3 H3 σ3 q s2 S3 => c δ' F3 H3 σ3 q (s.ff.trans s2) S3) (fun δ' F3 H3 σ3 q s2 S3 => e δ' F3 H3 σ3 q (s.ff.trans s2) S3)
  | false => exact h2 p _ _ _ _ _ _ S2 D (fun δ' F3 H3 σ3 q s2 S3 => a δ' F3 H3 σ3 q (s.ff.trans s2) S3) (fun δ' z v F3 H3 σ3 q s2 S3 R => r δ' z v F3 H3 σ3 q (s.ff.trans s2) S3 R) (fun δ' F3 H3 σ3 q s2 S3 => c δ' F3 H3 σ3 q (s.ff.trans s2) S3) (fun δ' F3 H3 σ3 q s2 S3 => e δ' F3 H3 σ3 q (s.ff.trans s2) S3)
/-- the drawing list opened: its three numbers -/
theorem run_opn (hi : i < δ.length) (h : ∀ a s c : Int, 0 ≤ a → a < 10 ^ 600 → 0 ≤ s → s < 2147483647 → 0 ≤ c → c ≤ n → Run K w t (δ.set i (.own b [.int a, .int s, .int c])) nx rt bk ct) : Run K w t (δ.set i (.gen b n)) nx rt bk ct := fun F0 H0 m F H σ S D x1 x2 x3 x4 => by
  have e0 : (δ.set i (.gen b n))[i]? = some (.gen b n) := List.getElem?_set_self hi
  obtain ⟨g, hg⟩ := S.gadr hi
  obtain ⟨p', e1, f1, a, s, c, hH, b1, b2, b3, b4, b5, b6⟩ := S.ok i _ e0
  rw [hg] at e1
  cases e1
  refine h a s c b1 b2 b3 b4 b5 b6 F0 H0 m F H σ ?_ D x1 x2 x3 x4
  have self : (δ.set i (.own b [.int a, .int s, .int c]))[i]? = some (.own b [.int a, .int s, .int c]) := List.getElem?_set_self hi
  have slot : ∀ (j : Nat) (z : Slot), i ≠ j → (δ.set i (.own b [.int a, .int s, .int c]))[j]? = some z → (δ.set i (.gen b n))[j]? = some z := fun j z q e => by
    rw [List.getElem?_set_ne q] at e ⊢
    exact e
  refine ⟨S.st, by have := S.len; rw [List.length_set] at this ⊢; exact this, fun j z e => ?_, fun j k si sj v jk ej ek mj mk => ?_, fun j z p e ms ep => ?_, S.n0⟩
  · by_cases q : i = j
    · subst q
      rw [self] at e
      cases e
      rw [hg]
      exact ⟨g, _, rfl, f1, hH, .cons (.int a) (.cons (.int s) (.cons (.int c) .nil))⟩
    · exact S.ok j z (slot j z q e)
  · have mtx : ∀ (l : Nat) (sl : Slot), (δ.set i (.own b [.int a, .int s, .int c]))[l]? = some sl → sl.mt = true → ∃ s2, (δ.set i (.gen b n))[l]? = some s2 ∧ s2.mt = true := fun l sl e1 e2 => by
      by_cases q : i = l
      · subst q; exact ⟨_, e0, rfl⟩
      · exact ⟨sl, slot l sl q e1, e2⟩
    obtain ⟨s1, a1, b1⟩ := mtx j si ej mj
    obtain ⟨s2, a2, b2⟩ := mtx k sj ek mk
    exact S.dis j k s1 s2 v jk a1 a2 b1 b2
  · by_cases q : i = j
    · subst q
      rw [self] at e
      cases e
      have q := S.fr i (.gen b n) p e0 rfl ep
      exact q
    · exact S.fr j z p (slot j z q e) ms ep
/-- the drawing list's end -/
def GenEnd (δ : List Slot) (n : Int) : Prop := (∃ k, δ[0]? = some (.gen false k) ∧ k ≤ n) ∨ ∃ a s c : Int, δ[0]? = some (.own false [.int a, .int s, .int c]) ∧ 0 ≤ a ∧ a < 10 ^ 600 ∧ 0 ≤ s ∧ s < 2147483647 ∧ 0 ≤ c ∧ c ≤ n
theorem genEnd_at {F0 H0 F H : Hp} {m : Addr → Prop} {σ : L2.St} {p : Addr} (S : Sig K w F0 H0 m F H σ δ) (e : GenEnd δ n) (hp : σ[0]? = some (some (.ref p))) : GenAt H p n := by
  rcases e with ⟨k, e, h⟩ | ⟨a, s, c, e, b⟩
  · obtain ⟨p', e1, f1, a, s, c, hH, b1, b2, b3, b4, b5, b6⟩ := S.ok 0 _ e
    rw [hp] at e1
    cases e1
    exact ⟨a, s, c, hH, b1, b2, b3, b4, b5, Int.le_trans b6 h⟩
  · obtain ⟨p', vs, e1, f1, hH, hd⟩ := S.ok 0 _ e
    rw [hp] at e1
    cases e1
    have e3 : vs = [.int a, .int s, .int c] := ints_da (ns := [a, s, c]) hd
    rw [e3] at hH
    exact ⟨a, s, c, hH, b⟩
/-- a def that draws: its body -/
theorem start_sigG {N : List Str} {F H : Hp} {g : Addr} {vs : List V} (h : DpAll K F vs ds) (s : Fz F H) (fg : F g = none) (G : GenAt H g n) : Sig K w F H (fun a => a = g) F H (L2.start N (.ref g :: vs)) (.gen false n :: startD (N.length - 1) ds) := by
  have l := da_len h
  have slot : ∀ (i : Nat) (s : Slot), (startD (N.length - 1) ds)[i]? = some s → (∃ d, ds[i]? = some d ∧ s = .d d) ∨ s = .emp := fun i s e => by
    unfold startD at e
    by_cases q : i < ds.length
    · rw [List.getElem?_append_left (by rw [List.length_map]; exact q), List.getElem?_map] at e
      rw [List.getElem?_eq_getElem q] at e ⊢
      exact .inl ⟨_, rfl, (Option.some.inj e).symm⟩
    · rw [List.getElem?_append_right (by rw [List.length_map]; omega)] at e
      exact .inr (List.eq_of_mem_replicate (List.mem_of_getElem? e))
  have e0 : L2.start N (.ref g :: vs) = some (.ref g) :: (vs.map some ++ List.replicate (N.length - 1 - vs.length) none) := by
    unfold L2.start
    rw [List.map_cons, List.length_cons, List.cons_append, Nat.sub_sub, Nat.add_comm]
  rw [e0]
  have mt1 : ∀ (i : Nat) (s : Slot), (.gen false n :: startD (N.length - 1) ds)[i]? = some s → s.mt = true → i = 0 ∧ s = .gen false n := fun i s e ms => by
    cases i with
    | zero => cases e; exact ⟨rfl, rfl⟩
    | succ j => rcases slot j s e with ⟨d, e1, rfl⟩ | rfl <;> cases ms
  refine ⟨.refl s.s, ?_, fun i s e => ?_, fun i j si sj v ij ei ej mi mj => ?_, fun i s p e ms ep => ?_, s.n⟩
  · unfold startD
    rw [List.length_cons, List.length_cons, List.length_append, List.length_append, List.length_map, List.length_map, List.length_replicate, List.length_replicate, l]
  · cases i with
    | zero => cases e; exact ⟨g, rfl, fg, G⟩
    | succ j =>
      rcases slot j s e with ⟨d, e1, rfl⟩ | rfl
      · obtain ⟨v, h1, h2⟩ := da_get h e1
        refine ⟨v, ?_, h2⟩
        rw [List.getElem?_cons_succ, List.getElem?_append_left (by rw [List.length_map]; exact (List.getElem?_eq_some_iff.mp h1).1), List.getElem?_map, h1]
        rfl
      · exact trivial
  · obtain ⟨a1, _⟩ := mt1 i si ei mi
    obtain ⟨a2, _⟩ := mt1 j sj ej mj
    exact absurd (a1.trans a2.symm) ij
  · obtain ⟨a1, rfl⟩ := mt1 i s e ms
    subst a1
    cases ep
    exact ⟨(fun y => by cases y), fun _ => rfl⟩
theorem run_spG {N : List Str} {F H : Hp} {g : Addr} {vs : List V} {Q : VK} {k : Int} (s : Fz F H) (fg : F g = none) (G : GenAt H g n) (h : DpAll K F vs ds) (c : ∀ d v F2 H2, P d → Stp (fun a => a = g) F H F2 H2 → GenAt H2 g (n + k) → Dp K F2 v d → Q v H2)
    (r : Run K w t (.gen false n :: startD (N.length - 1) ds) no1 (fun δ' r => GenEnd δ' (n + k) ∧ ((∃ d, r = .d d ∧ P d) ∨ ∃ xs, r = .own xs ∧ P (.list xs))) no1 no1) : t { nx := fun _ H' => Q .non H', rt := Q } (L2.start N (.ref g :: vs)) H := by
  refine r F H _ F H _ (start_sigG h s fg G) _ (fun _ _ _ _ z => z.elim) (fun δ' r v F2 H2 σ2 e f S R => ?_) (fun _ _ _ _ z => z.elim) (fun _ _ _ _ z => z.elim)
  have hm : ∃ s, δ'[0]? = some s ∧ s.mt = true := by
    rcases e.1 with ⟨k, e, _⟩ | ⟨a, b, c, e, _⟩
    · exact ⟨_, e, rfl⟩
    · exact ⟨_, e, rfl⟩
  obtain ⟨s0, e0, m0⟩ := hm
  obtain ⟨p, ep, _⟩ := S.ref e0 m0
  have G2 : GenAt H2 p (n + k) := genEnd_at S e.1 ep
  have pg : p = g := by
    refine (S.fr 0 _ p e0 m0 ep).2 ?_
    rcases e.1 with ⟨k, e, _⟩ | ⟨a, b, c, e, _⟩
    · rw [e] at e0; cases e0; rfl
    · rw [e] at e0; cases e0; rfl
  subst pg
  rcases e.2 with ⟨d, rfl, pd⟩ | ⟨xs, rfl, pd⟩
  · exact c d v F2 H2 pd S.st G2 R
  · obtain ⟨p, vs, rfl, f1, h0, h1, d1⟩ := R
    refine c _ _ (upd F2 p (.lst vs)) H2 pd ⟨S.st.ff.trans (same_new f1), fun b o eb => ?_, S.st.hh, fun b eb nb => ?_, S.st.hn, S.st.nd⟩ G2 (.lst (.inl (.inl upd_same)) (da_up (same_new f1) _ _ d1))
    · by_cases z : b = p
      · subst z; rw [upd_same] at eb; cases eb; exact h1
      · rw [upd_ne z] at eb; exact S.fh b o eb
    · rw [upd_ne (fun z => nb (by rw [z]; exact h0))]
      exact S.st.nj b eb nb
/-- x = e, e a new drawing list -/
theorem run_setGen {j : Nat} {a s c : Int} (h : EvO K w te δ [.int a, .int s, .int c]) (hb : 0 ≤ a ∧ a < 10 ^ 600 ∧ 0 ≤ s ∧ s < 2147483647 ∧ 0 ≤ c ∧ c ≤ n) (k : nx (δ.set j (.gen true n))) : Run K w (tAsg te (gName j)) δ nx rt bk ct := fun F0 H0 m F H σ S D x _ _ _ =>
  h _ _ _ _ _ _ S _ fun p vs F2 H2 st f np e dp => x _ F2 H2 _ k st.ff ((S.up st).setM j ⟨p, rfl, f, a, s, c, by rw [e, ints_da (ns := [a, s, c]) dp]; rfl, hb⟩ rfl (new_loc S np) fun j2 sj _ ej mj eq => by
      obtain ⟨p', e1, _⟩ := S.ref ej mj
      rw [e1] at eq
      cases eq
      have q := S.ok j2 sj ej
      rw [e1] at q
      cases sj with
      | emp => cases mj
      | d x => cases mj
      | own b xs => obtain ⟨_, _, h1, _, h3, _⟩ := q; cases h1; rw [np] at h3; cases h3
      | gen b' n => obtain ⟨_, h1, _, _, _, _, h3, _⟩ := q; cases h1; rw [np] at h3; cases h3
      | set S' n => obtain ⟨_, h1, _, h3⟩ := q; cases h1; rw [np] at h3; cases h3
      | ob o9 => obtain ⟨_, h1, _, h3⟩ := q; cases h1; rw [np] at h3; cases h3)
/-- a, b = e1, e2, both new lists that will change -/
theorem run_parO {j1 j2 : Nat} (h1 : EvO K w ta δ xs) (h2 : EvO K w tb δ ys) (k : nx ((δ.set j1 (.own true xs)).set j2 (.own true ys))) : Run K w (tPar j1 j2 (tCons ta (tCons tb tNil))) δ nx rt bk ct := fun F0 H0 m F H σ S D x _ _ _ =>
  h1 _ _ _ _ _ _ S _ fun p vs F2 H2 st f np e dp => h2 _ _ _ _ _ _ (S.up st) _ fun p2 vs2 F3 H3 st2 f2 np2 e2 dp2 => by
    have fresh : ∀ (q : Addr), H q = none → ∀ (j2 : Nat) (sj : Slot), δ[j2]? = some sj → sj.mt = true → σ[j2]? ≠ some (some (.ref q)) := fun q np j2 sj ej mj eq => by
      obtain ⟨p', e1, _⟩ := S.ref ej mj
      rw [e1] at eq
      cases eq
      have q := S.ok j2 sj ej
      rw [e1] at q
      cases sj with
      | emp => cases mj
      | d x => cases mj
      | own b xs => obtain ⟨_, _, h1, _, h3, _⟩ := q; cases h1; rw [np] at h3; cases h3
      | gen b' n => obtain ⟨_, h1, _, _, _, _, h3, _⟩ := q; cases h1; rw [np] at h3; cases h3
      | set S' n => obtain ⟨_, h1, _, h3⟩ := q; cases h1; rw [np] at h3; cases h3
      | ob o9 => obtain ⟨_, h1, _, h3⟩ := q; cases h1; rw [np] at h3; cases h3
    have n2 : H p2 = none := by
      cases q : H p2 with
      | none => rfl
      | some o => rw [st.hs _ _ q] at np2; cases np2
    have ne : p ≠ p2 := fun z => by
      subst z
      rw [e] at np2
      cases np2
    have f3 : F3 p = none := st2.nj p f (by rw [e]; exact fun z => nomatch z)
    have S3 := ((S.up st).up st2).setM j1 (s := .own true xs) ⟨p, vs, rfl, f3, st2.hs _ _ e, da_up st2.ff _ _ dp⟩ rfl (new_loc S np) fun j sj _ ej mj => fresh p np j sj ej mj
    refine ⟨_, _, rfl, x _ F3 H3 _ k (st.ff.trans st2.ff) (S3.setM j2 ⟨p2, vs2, rfl, f2, e2, dp2⟩ rfl (new_loc S n2) fun j sj nj ej mj => ?_)⟩
    by_cases z : j1 = j
    · subst z
      intro q
      by_cases l : j1 < σ.length
      · rw [List.getElem?_set_self l] at q
        cases q
        exact ne rfl
      · rw [List.getElem?_eq_none (by rw [List.length_set]; omega)] at q
        cases q
    · rw [List.getElem?_set_ne z] at ej ⊢
      exact fresh p2 n2 j sj ej mj
theorem Sig.more {F0 H0 F H : Hp} {m : Addr → Prop} {σ : L2.St} (S : Sig K w F0 H0 m F H σ (δ.set i (.gen b n))) (hi : i < δ.length) (l : n ≤ n2) : Sig K w F0 H0 m F H σ (δ.set i (.gen b n2)) := by
  have e0 : (δ.set i (.gen b n))[i]? = some (.gen b n) := List.getElem?_set_self hi
  obtain ⟨g, hg⟩ := S.gadr hi
  obtain ⟨p', e1, f1, a, s, c, hH, b1, b2, b3, b4, b5, b6⟩ := S.ok i _ e0
  rw [hg] at e1
  cases e1
  exact S.turn hi hg (.refl S.fh) ⟨a, s, c, hH, b1, b2, b3, b4, b5, Int.le_trans b6 l⟩
theorem eg_more (h : EvG K w te δ i b n n1 P) (l : n1 ≤ n2) : EvG K w te δ i b n n2 P := fun _ _ _ F H σ g S hi hg Q q => h _ _ _ _ _ _ _ S hi hg Q fun d v F2 H2 p s S2 e => q d v F2 H2 p s (S2.more hi l) e
theorem eg_tupleOf (h : EvG K w ta δ i b n n2 P1) (hr : ∀ x, P1 x → ∃ ds, x = .list ds ∧ P (.tuple ds)) : EvG K w (tCB (rTupOfN K) (tCons ta tNil)) δ i b n n2 P := fun _ _ _ F H σ g S hi hg Q q =>
  h _ _ _ _ _ _ _ S hi hg _ fun d v F2 H2 p s S2 e => by
    obtain ⟨ds, rfl, pd⟩ := hr d p
    obtain ⟨a, vs, rfl, hs, hd⟩ := dp_list e
    exact ⟨a, vs, rfl, .inl ⟨S2.fh.seq hs, fun l hl o ho => q (.tuple ds) (.ref l) (upd F2 l (.frz o (.tup vs))) _ pd (s.trans (stp_frz S2.fh hl (ok_tup ho))) (S2.up (.frz S2.fh hl (ok_tup ho))) (.tup (.inl (.inr ⟨_, upd_same⟩)) (da_up (same_new (S2.fh.free hl)) _ _ hd))⟩⟩
theorem eg_catT (h : EvG K w ta δ i b n n1 P1) (h2 : EvG K w tb δ i b n1 n2 P2) (hr : ∀ x y, P1 x → P2 y → ∃ xs ys, x = .tuple xs ∧ y = .tuple ys ∧ xs.length + ys.length ≤ 100000 ∧ P (.tuple (xs ++ ys))) : EvG K w (tOp (rCatN K) ta tb) δ i b n n2 P := fun _ _ _ F H σ g S hi hg Q q =>
  h _ _ _ _ _ _ _ S hi hg _ fun x v F2 H2 p s S2 e => h2 _ _ _ _ _ _ _ S2 hi hg _ fun y u F3 H3 p2 s2 S3 e2 => by
    obtain ⟨xs, ys, rfl, rfl, hl, pd⟩ := hr x y p p2
    obtain ⟨a, vs, rfl, hs, hd⟩ := dp_tuple (dp_up s2.ff _ _ e)
    obtain ⟨c, us, rfl, hs2, hd2⟩ := dp_tuple e2
    refine ⟨a, c, vs, us, rfl, rfl, sqt_up S3.fh hs, sqt_up S3.fh hs2, by rw [da_len hd, da_len hd2]; exact small_line hl, fun z => ?_, fun z z2 => ?_, fun z z2 p hp o ho => ?_⟩
    · subst z
      cases hd
      exact q _ _ F3 H3 pd (s.trans s2) S3 e2
    · subst z2
      cases hd2
      rw [List.append_nil] at pd
      exact q _ _ F3 H3 pd (s.trans s2) S3 (dp_up s2.ff _ _ e)
    · exact q _ _ (upd F3 p (.frz o (.tup (vs ++ us)))) _ pd ((s.trans s2).trans (stp_frz S3.fh hp (ok_tup ho))) (S3.up (.frz S3.fh hp (ok_tup ho))) (.tup (.inl (.inr ⟨_, upd_same⟩)) (da_up (same_new (S3.fh.free hp)) _ _ (da_app hd hd2)))
/-- what a comprehension that draws may give -/
inductive LcR (kp : PD → PD → Prop) (sk : PD → Prop) : List PD → List PD → Prop where
  | nil : LcR kp sk [] []
  | keep {x e : PD} {xs es : List PD} : LcR kp sk xs es → kp x e → LcR kp sk (xs ++ [x]) (es ++ [e])
  | skip {x : PD} {xs es : List PD} : LcR kp sk xs es → sk x → LcR kp sk (xs ++ [x]) es
theorem LcR.len {kp : PD → PD → Prop} {sk : PD → Prop} {xs es : List PD} (h : LcR kp sk xs es) : es.length ≤ xs.length := by
  induction h with
  | nil => exact Nat.le_refl _
  | keep _ _ ih => rw [List.length_append, List.length_append]; exact Nat.succ_le_succ ih
  | skip _ _ ih => rw [List.length_append]; exact Nat.le_succ_of_le ih
theorem set_two {α : Type} {l : List α} {i v : Nat} {x y : α} (h : i ≠ v) : (l.set i x).set v y = (l.set v y).set i x := by
  rw [List.set_comm _ _ h]
theorem eg_lc {v : Nat} {k : Int} {kp : PD → PD → Prop} {sk : PD → Prop} (hi : ItD K w wi (δ.set i (.gen b n)) ds) (hk : 0 ≤ k) (iv : i ≠ v) (hl : ds.length ≤ 100000)
    (hs : ∀ (j : Nat) (x : PD), ds[j]? = some x → ∃ (k1 : Int) (PB : Bool → Prop), k1 ≤ k ∧ TsG K w tt (δ.set v (.d x)) i b (n + k * j) (n + k * j + k1) PB ∧ (PB true → EvG K w te (δ.set v (.d x)) i b (n + k * j + k1) (n + k * j + k) (kp x)) ∧ (PB false → sk x)) :
    EvG K w (tLc wi (gName v) tt te [v]) δ i b n (n + k * ds.length) (fun d => ∃ es, d = .list es ∧ LcR kp sk ds es) := fun F0 H0 m F H σ g S il hg Q q =>
  hi _ _ _ _ _ _ S _ fun J F2 H2 s Y => fun D nD => by
    have f2 : F2 D = none := s.fh.free nD
    have eg0 : (δ.set i (.gen b n))[i]? = some (.gen b n) := List.getElem?_set_self il
    have gD : D ≠ g := fun z => by
      obtain ⟨p', e1, f1, a, s', c, hH, _⟩ := (S.up s).ok i _ eg0
      rw [hg] at e1
      cases e1
      rw [← z, nD] at hH
      cases hH
    refine ⟨fun j r H' => r = ds.length - j ∧ j ≤ ds.length ∧ ∃ F' acc es, Stp (fun a => a = g) F2 H2 F' H' ∧ Sig K w F0 H0 m F' H' σ (δ.set i (.gen b (n + k * j))) ∧ F' D = none ∧ H' D = some (.lst acc) ∧ DpAll K F' acc es ∧ LcR kp sk (ds.take j) es, ⟨ds.length, by omega, Nat.zero_le _, F2, [], [], .mk1 s.fh nD, ?_, f2, upd_same, .nil, .nil⟩, ?_⟩
    · rw [Int.natCast_zero, Int.mul_zero, Int.add_zero]
      exact (S.up s).up (.mk1 s.fh nD)
    rintro j r H' ⟨rfl, hj, F', acc, es, st, S', fD, hD, hd, lr⟩
    have y := Y F' H' st.ff st.fh j
    by_cases z : j < ds.length
    · refine .inr ?_
      have ex : ds[j]? = some ds[j] := List.getElem?_eq_getElem z
      obtain ⟨g1, g2⟩ := y.1 _ ex
      have e1 : n + k * ((j + 1 : Nat) : Int) = n + k * j + k := by rw [Int.natCast_add, Int.mul_add]; omega
      refine ⟨g1, fun H' => j + 1 ≤ ds.length ∧ ∃ F' acc es, Stp (fun a => a = g) F2 H2 F' H' ∧ Sig K w F0 H0 m F' H' σ (δ.set i (.gen b (n + k * (j + 1 : Nat)))) ∧ F' D = none ∧ H' D = some (.lst acc) ∧ DpAll K F' acc es ∧ LcR kp sk (ds.take (j + 1)) es, fun H' h' => ⟨ds.length - (j + 1), by omega, rfl, h'⟩, fun x H3 yy => ?_⟩
      obtain ⟨F3, s3, e3⟩ := g2 x H3 yy
      obtain ⟨k1, PB, hk1, tg, h1, h2⟩ := hs j _ ex
      have S3 := S'.up s3
      have S4 := (S3.drop v none).setD v e3
      have e4 : ((δ.set i (.gen b (n + k * j))).set v .emp).set v (.d ds[j]) = (δ.set v (.d ds[j])).set i (.gen b (n + k * j)) := by rw [List.set_set, set_two iv]
      rw [e4] at S4
      have hg4 : ((σ.set v none).set v (some x))[i]? = some (some (.ref g)) := by rw [List.set_set, List.getElem?_set_ne iv.symm]; exact hg
      have il4 : i < (δ.set v (.d ds[j])).length := by rw [List.length_set]; exact il
      refine ⟨by show (((σ.set v none).set v (some x)).set v none) = σ.set v none; rw [List.set_set, List.set_set], tg _ _ _ _ _ _ _ S4 il4 hg4 _ fun bb F4 H4 pb s4 S5 => ?_⟩
      have D3 : H3 D = some (.lst acc) := s3.hs _ _ hD
      have n3 : F3 D = none := s3.nj D fD (by rw [hD]; exact fun z => nomatch z)
      have D4 : H4 D = some (.lst acc) := s4.hh _ _ gD D3
      have n4 : F4 D = none := s4.nj D n3 (by rw [D3]; exact fun z => nomatch z)
      have gat : ∀ {F5 H5 : Hp} {n5 : Int}, Sig K w F0 H0 m F5 H5 ((σ.set v none).set v (some x)) ((δ.set v (.d ds[j])).set i (.gen b n5)) → GenAt H5 g n5 := fun {F5 H5 n5} S6 => by
        obtain ⟨p', e1, f1, G⟩ := S6.ok i _ (List.getElem?_set_self il4)
        rw [hg4] at e1
        cases e1
        exact G
      cases bb with
      | true =>
        rw [if_pos rfl]
        refine h1 pb _ _ _ _ _ _ _ S5 il4 hg4 _ fun d' v' F5 H5 pd s5 S6 e5 => ?_
        have D5 : H5 D = some (.lst acc) := s5.hh _ _ gD D4
        have n5 : F5 D = none := s5.nj D n4 (by rw [D4]; exact fun z => nomatch z)
        have stA : Stp (fun a => a = g) F2 H2 F5 H5 := ((st.trans s3.wk).trans s4).trans s5
        have stB : Stp (fun a => a = g) F2 H2 F5 (upd H5 D (.lst (acc ++ [v']))) := ⟨stA.ff, fun b' o' eb => by rw [upd_ne (ne_of_none eb n5)]; exact S6.fh b' o' eb, fun a o na ea => by rw [upd_ne (ne_of_none ea nD)]; exact stA.hh a o na ea, stA.nj, fun a na => up_some (stA.hn a na), fun nd => (stA.nd nd).put ok_lst⟩
        refine ⟨acc, D5, lt_line ?_, z, F5, acc ++ [v'], es ++ [d'], stB, ?_, n5, upd_same, da_app (da_up ((s3.ff.trans s4.ff).trans s5.ff) _ _ hd) (.cons e5 .nil), ?_⟩
        · rw [da_len hd]
          have := lr.len
          rw [List.length_take] at this
          omega
        · rw [e1]
          obtain ⟨a, s', c, hH, bds⟩ := gat S6
          exact (S.up s).turn il hg stB ⟨a, s', c, by rw [upd_ne gD.symm]; exact hH, bds⟩
        · rw [take_more ex]
          exact .keep lr pd
      | false =>
        rw [if_neg Bool.false_ne_true]
        refine ⟨z, F4, acc, es, (st.trans s3.wk).trans s4, ?_, n4, D4, da_up (s3.ff.trans s4.ff) _ _ hd, ?_⟩
        · rw [e1]
          exact ((S.up s).turn il hg ((st.trans s3.wk).trans s4) (gat S5)).more il (by omega)
        · rw [take_more ex]
          exact .skip lr (h2 pb)
    · refine .inl ⟨y.2 (by omega), ?_⟩
      have ej : j = ds.length := by omega
      subst ej
      rw [List.take_length] at lr
      have stF : Stp (fun a => a = g) F2 H2 (upd F' D (.lst acc)) H' := ⟨st.ff.trans (same_new fD), fun b' o' eb => by
          by_cases z : b' = D
          · subst z; rw [upd_same] at eb; cases eb; exact hD
          · rw [upd_ne z] at eb; exact st.fh b' o' eb, st.hh, fun a ea na => by
          rw [upd_ne (fun z => na (by rw [z]; exact nD))]
          exact st.nj a ea na, st.hn, st.nd⟩
      obtain ⟨p', q1, f1, G⟩ := S'.ok i _ (List.getElem?_set_self il)
      rw [hg] at q1
      cases q1
      exact q (.list es) (.ref D) (upd F' D (.lst acc)) H' ⟨es, rfl, lr⟩ (s.wk.trans stF) ((S.up s).turn il hg stF G) (.lst (.inl (.inl upd_same)) (da_up (same_new fD) _ _ hd))
/-- a, b = e1, e2, drawing -/
theorem run_parG {j1 j2 : Nat} (h : EvGA K w tz δ i b n n2 PA) (hi : i < δ.length) (c : ∀ ds, PA ds → ∃ x y, ds = [x, y] ∧ nx (((δ.set i (.gen b n2)).set j1 (.d x)).set j2 (.d y))) : Run K w (tPar j1 j2 tz) (δ.set i (.gen b n)) nx rt bk ct := fun _ _ _ F H σ S D a _ _ _ => by
  obtain ⟨g, hg⟩ := S.gadr hi
  refine h _ _ _ _ _ _ _ S hi hg _ fun ds vs F2 H2 p s S2 e => ?_
  obtain ⟨x, y, rfl, k⟩ := c ds p
  obtain ⟨v, u, rfl, r1, r2⟩ := da2 e
  exact ⟨v, u, rfl, a _ F2 H2 _ k s.ff ((S2.setD j1 r1).setD j2 r2)⟩
theorem LcR.all {kp : PD → PD → Prop} {xs es : List PD} (h : LcR kp (fun _ => False) xs es) : es.length = xs.length ∧ ∀ (j : Nat) (x : PD), xs[j]? = some x → ∃ e, es[j]? = some e ∧ kp x e := by
  induction h with
  | nil => exact ⟨rfl, fun j x e => by simp at e⟩
  | @keep x e xs es _ hk ih =>
    obtain ⟨l, a⟩ := ih
    refine ⟨by rw [List.length_append, List.length_append, l]; rfl, fun j y ej => ?_⟩
    by_cases z : j < xs.length
    · rw [List.getElem?_append_left z] at ej
      rw [List.getElem?_append_left (by omega)]
      exact a j y ej
    · rw [List.getElem?_append_right (by omega)] at ej
      have lj := (List.getElem?_eq_some_iff.mp ej).1
      have : j = xs.length := by
        rw [List.length_singleton] at lj
        omega
      subst this
      rw [Nat.sub_self] at ej
      cases ej
      refine ⟨e, ?_, hk⟩
      rw [List.getElem?_append_right (by omega), l, Nat.sub_self]
      rfl
  | skip _ h _ => exact h.elim
end
end MU

namespace MU
open PySem PySem.Spec L2
section
variable {K : PySem.W.Frag} {w : World} {δ δ' : List Slot} {te ta tb : TE} {tt : TT} {t u : TS} {tz : TA} {d x y : PD} {ds es xs ys : List PD}
/-! isinstance -/
def tyD : PD → String
  | .none => "NoneType"
  | .bool _ => "bool"
  | .int _ => "int"
  | .str _ => "str"
  | .list _ => "list"
  | .tuple _ => "tuple"
  | .dict _ => "dict"
def isIntD : PD → Bool
  | .bool _ => true
  | .int _ => true
  | _ => false
def isBoolD : PD → Bool
  | .bool _ => true
  | _ => false
def isTupD : PD → Bool
  | .tuple _ => true
  | _ => false
def isLstD : PD → Bool
  | .list _ => true
  | _ => false
theorem tyx_of {H : Hp} {v : V} (h : Dp K H v d) : TyX K H v (.type (tyD d)) := by
  cases h with
  | non => exact .base .non
  | bl b => exact .base (.bl b)
  | int b => exact .base (.int b)
  | str b => exact .base (.str b)
  | lst h1 h2 =>
    rcases h1 with (e | ⟨o, e⟩) | ⟨o, its, n, e, c, _⟩
    · exact .base (.lst e)
    · exact .base (.frz e)
    · exact .kList e c
  | tup h1 h2 =>
    rcases h1 with (e | ⟨o, e⟩) | ⟨o, its, n, e, c, _⟩
    · exact .base (.tup e)
    · exact .fTuple e
    · exact .kTuple e c
theorem ev_isi {c : String} {b : Bool} (ha : RdD K w ta δ d) (hk : kitB (tyD d) c = some b) : EvD K w (tCB (rIsi K) (tCons ta (tCons (tC (.ty c)) tNil))) δ (.bool b) := fun _ _ _ F H σ S Q q =>
  ha _ _ _ _ _ _ S _ fun v F2 H2 s e => ⟨v, .ty c, .type (tyD d), .type c, b, rfl, .ty c, tyx_of e, kit_ty hk, q _ F2 H2 s (.bl b)⟩
theorem kit_int : kitB (tyD d) "int" = some (isIntD d) := by
  cases d
  · exact (by decide +kernel : kitB "NoneType" "int" = some false)
  · exact (by decide +kernel : kitB "bool" "int" = some true)
  · exact (by decide +kernel : kitB "int" "int" = some true)
  · exact (by decide +kernel : kitB "str" "int" = some false)
  · exact (by decide +kernel : kitB "list" "int" = some false)
  · exact (by decide +kernel : kitB "tuple" "int" = some false)
  · exact (by decide +kernel : kitB "dict" "int" = some false)
theorem kit_bool : kitB (tyD d) "bool" = some (isBoolD d) := by
  cases d
  · exact (by decide +kernel : kitB "NoneType" "bool" = some false)
  · exact (by decide +kernel : kitB "bool" "bool" = some true)
  · exact (by decide +kernel : kitB "int" "bool" = some false)
  · exact (by decide +kernel : kitB "str" "bool" = some false)
  · exact (by decide +kernel : kitB "list" "bool" = some false)
  · exact (by decide +kernel : kitB "tuple" "bool" = some false)
  · exact (by decide +kernel : kitB "dict" "bool" = some false)
theorem kit_tup : kitB (tyD d) "tuple" = some (isTupD d) := by
  cases d
  · exact (by decide +kernel : kitB "NoneType" "tuple" = some false)
  · exact (by decide +kernel : kitB "bool" "tuple" = some false)
  · exact (by decide +kernel : kitB "int" "tuple" = some false)
  · exact (by decide +kernel : kitB "str" "tuple" = some false)
  · exact (by decide +kernel : kitB "list" "tuple" = some false)
  · exact (by decide +kernel : kitB "tuple" "tuple" = some true)
  · exact (by decide +kernel : kitB "dict" "tuple" = some false)
theorem kit_lst : kitB (tyD d) "list" = some (isLstD d) := by
  cases d
  · exact (by decide +kernel : kitB "NoneType" "list" = some false)
  · exact (by decide +kernel : kitB "bool" "list" = some false)
  · exact (by decide +kernel : kitB "int" "list" = some false)
  · exact (by decide +kernel : kitB "str" "list" = some false)
  · exact (by decide +kernel : kitB "list" "list" = some true)
  · exact (by decide +kernel : kitB "tuple" "list" = some false)
  · exact (by decide +kernel : kitB "dict" "list" = some false)
/-! texts of ints -/
abbrev rStrI : List V → Hp → VK → Prop := fun xs H Q => ∃ i : Int, xs = [.int i] ∧ i.natAbs.log2 < 1920 ∧ Q (.str (toString i)) H
theorem ev_strI {i : Int} (ha : RdD K w ta δ (.int i)) (h : i.natAbs.log2 < 1920) : EvD K w (tCB rStrI (tCons ta tNil)) δ (.str (toString i)) :=
  rd_call (ra_cons ha ra_nil) (fun H => .str _) fun H vs h' Q q => by
    obtain ⟨v, rfl, r⟩ := da1 h'
    cases r
    exact ⟨i, rfl, h, q⟩
end
/-! the rules with the written part named: within a comprehension's block too -/
section
variable {X : Cx} {K : PySem.W.Frag} {w : World} {tg : Expr}
theorem k_eq (hu : X.A.units + 64 < cLine) (e : X.K = K := by rfl) : OpR X (compareOp .Eq) (rEqD K) := by subst e; exact op_eqD hu
theorem k_ne (hu : X.A.units + 64 < cLine) (e : X.K = K := by rfl) : OpR X (compareOp .NotEq) (rNeD K) := by subst e; exact op_neD hu
theorem k_in (e : X.K = K := by rfl) : OpR X (compareOp .In) (rIn K false) := by subst e; exact op_in_seq
theorem k_notin (e : X.K = K := by rfl) : OpR X (compareOp .NotIn) (rIn K true) := by subst e; exact op_notIn_seq
theorem k_ixL (e : X.K = K := by rfl) : IxR X (rIxL K) := by subst e; exact ix_list
theorem k_ixT (e : X.K = K := by rfl) : IxR X (rIxT K) := by subst e; exact ix_tup
theorem k_slL (e : X.K = K := by rfl) : SlR X (rSlL K) := by subst e; exact sl_list
theorem k_slT (e : X.K = K := by rfl) : SlR X (rSlN K) := by subst e; exact sl_tupN
theorem k_len (e : X.K = K := by rfl) : CallR X (.builtin "len") (rLen K) := by subst e; exact call_len_seq
theorem k_list (e : X.K = K := by rfl) : CallR X (.type "list") (rLstOf K) := by subst e; exact call_list_of
theorem k_tuple (e : X.K = K := by rfl) : CallR X (.type "tuple") (rTupOfN K) := by subst e; exact cr_tupOfN
theorem k_isi (e : X.K = K := by rfl) : CallR X (.builtin "isinstance") (rIsi K) := by subst e; exact call_isi
theorem k_sorted (e : X.K = K := by rfl) : CallR X (.builtin "sorted") (rSortedI K) := by subst e; exact cr_sortedI
theorem k_sum (hc : X.calm = true) (e : X.K = K := by rfl) : CallR X (.builtin "sum") (rSum K) := by subst e; exact cr_sum hc
theorem k_catL (e : X.K = K := by rfl) : OpR X (binaryOp .Add) (rCatL K) := by subst e; exact op_catL
theorem k_catT (e : X.K = K := by rfl) : OpR X (binaryOp .Add) (rCatN K) := by subst e; exact op_catN
theorem k_pil {l : Expr} {tl : TE} (hl : PE X l tl) (e : X.K = K := by rfl) : PI X tg l (iList K tl) := by subst e; exact pi_list hl
theorem k_pit {l : Expr} {tl : TE} (hl : PE X l tl) (e : X.K = K := by rfl) : PI X tg l (iTup K tl) := by subst e; exact pi_tup hl
theorem k_sin (e : X.w = w := by rfl) : OpR X (compareOp .In) (rSIn w) := by subst e; exact or_sin
theorem k_snotin (e : X.w = w := by rfl) : OpR X (compareOp .NotIn) (rSNotIn w) := by subst e; exact or_snotin
theorem k_sortedSet (hc : X.calm = true) (e : X.w = w := by rfl) : CallR X (.builtin "sorted") (rSortedSet w) := by subst e; exact cr_sortedSet hc
end
end MU

namespace MU
open PySem PySem.Spec PyProof.Rows L2
/-! enumerate over a tuple -/
theorem enumNew {v : Value} {o : Obj} {G : Heap → Prop} (B : Begins v o G) :
    Meets (Builtin.«enumerate.__new__» ⟨[.type "enumerate", v], []⟩) (fun _ R s => G s.heap ∧
      R (.ok (.ret (.ref (s.heap.push o).objs.size))) { s with heap := (s.heap.push o).push { cls := .type "enumerate", data := .fields #[.none, .bool false, .ref s.heap.objs.size, rawInt 0, .none, .none] } }) :=
  .of_wp fun prog w A R s hh => by
    obtain ⟨hp, g, d, tk, os⟩ := s
    obtain ⟨g1, h⟩ := hh
    have hsub := sub_enumerate
    have walk : ∀ {A' : Around} {E : Value → Shared → Prop} {Q : Value → Shared → Prop}, Q (.ref hp.objs.size) ⟨hp.push o, g, d, tk, os⟩ → wpAny (model prog w) A' (pyIter v) Q E ⟨hp, g, d, tk, os⟩ := fun q => B.iter prog w _ _ _ _ g1 q
    wp_walk using walk
    refine wpAny_stack_any fun _ => wpAny_pure ?_
    split
    · rename_i c _ _ _ _ _
      cases (c == Value.type "enumerate") <;> (wp_walk using walk; exact ⟨_, rfl, h⟩)
    · wp_walk using walk
      exact ⟨_, rfl, h⟩
theorem enumCall {prog : Program} {w : World} {A : Around} {E : Value → Shared → Prop} {s : Shared} {v : Value} {o : Obj} {G : Heap → Prop} {Q : Value → Shared → Prop} (B : Begins v o G) (g1 : G s.heap)
    (h : ∀ h', IsEnum h' (s.heap.objs.size + 1) s.heap.objs.size 0 .none → h'.get? s.heap.objs.size = some o → (∀ b u, s.heap.get? b = some u → h'.get? b = some u) → Q (.ref (s.heap.objs.size + 1)) { s with heap := h' }) :
    wpAny (model prog w) A (call (.type "enumerate") [v]) Q E s := by
  have sz : (s.heap.push o).objs.size = s.heap.objs.size + 1 := Heap.size_push ..
  have en : IsEnum ((s.heap.push o).push { cls := .type "enumerate", data := .fields #[.none, .bool false, .ref s.heap.objs.size, rawInt 0, .none, .none] }) (s.heap.objs.size + 1) s.heap.objs.size 0 .none := by
    rw [← sz]; exact Heap.get?_push_size _ rfl
  refine callType_new F.called_enumerate (by decide) (F.typeCall_enumerate_1 _) (F.newCall_enumerate_1 _) (fun obj => F.args_object_init_2 obj _) F.entry_enumerate_new (enumNew B) ⟨g1, ?_⟩
  show _ ∧ _
  rw [sz]
  exact ⟨⟨_, en, rfl⟩, h _ en (Heap.get?_push_of_some _ (Heap.get?_push_size _ B.free)) fun b u x => Heap.get?_push_of_some _ (Heap.get?_push_of_some _ x)⟩
def Iet (K : PySem.W.Frag) (a : Addr) : It :=
  ⟨fun i H => ∃ (xs : List V) (x : V), SqT K H a xs ∧ xs[i]? = some x, fun i H v H' => ∃ T x, ∃ o : Obj, v = .ref T ∧ H T = none ∧ o.dict = none ∧ H' = upd H T (.frz o (.tup [.int (i : Nat), x])) ∧ ∀ xs, SqT K H a xs → xs[i]? = some x, fun i H => ∃ xs : List V, SqT K H a xs ∧ xs.length ≤ i⟩
theorem turn_enumT {P : Program} {w : World} {K : PySem.W.Frag} {elts : List Expr} {kk : Nat} {tpos : Pos} (a e it : Addr) :
    Turn P w K (.Tuple elts kk tpos) (Iet K a) [e, it] e (fun i h => (∃ old, IsEnum h e it ((i : Nat) : Int) old) ∧ h.IsTupleIter it a i ∧ e ≠ it) where
  mem := by simp
  obj := fun i h st b hb => by
    obtain ⟨⟨old, he⟩, ⟨o, ho, hc, hd⟩, _⟩ := st
    have z : b = e ∨ b = it := by simpa using hb
    rcases z with z | z <;> subst z
    · exact ⟨_, he, fun v q => nomatch q⟩
    · exact ⟨o, ho, fun v q => by rw [hd] at q; cases q⟩
  keep := fun i h h' ⟨⟨old, he⟩, hi, ne⟩ k => ⟨⟨old, k e (by simp) _ he⟩, hi.at fun o q => k it (by simp) o q, ne⟩
  item := by
    intro X hP hw hK hc i pins s σ H E I hf st hg
    subst hP hw hK
    obtain ⟨⟨old, he⟩, hit, ne⟩ := st
    obtain ⟨xs, x, hq, hx⟩ := hg
    obtain ⟨its, rv, p, hz⟩ := I.tuple hq
    obtain ⟨u, hu, ru⟩ := rv.get hx
    have p1 : s.heap.IsTuple a its.toArray := p
    have ea : e ≠ a := fun z => by
      obtain ⟨o, ho, hcl, _⟩ := p1
      subst z
      have := ho.symm.trans he
      cases this
      simp at hcl
    have ita : a ≠ it := fun z => by
      obtain ⟨o, ho, hcl, _⟩ := p1
      obtain ⟨o2, ho2, hcl2, _⟩ := hit
      subst z
      cases ho.symm.trans ho2
      rw [hcl] at hcl2
      simp at hcl2
    have hel : e < s.heap.objs.size :=
      Heap.lt_size he
    have hil : it < s.heap.objs.size := hit.elim fun _ q => Heap.lt_size q.1
    have lt : i < its.toArray.size := by
      have := (List.getElem?_eq_some_iff.mp hu).1
      simpa using this
    refine wpAny_pyNext_enum_itemD (Draws.tuple (A := X.A.in1) (I.ok.hd hc) it a ita its.toArray) he ⟨hit, p1⟩ lt ne (by simp [ne, ea]) fun y h' tk hy ho st1 hT hsz hk => ?_
    have yu : y = u := by
      have : its[i]? = some y := by simpa using hy
      rw [hu] at this
      exact (Option.some.inj this).symm
    subst yu
    refine ⟨_, rfl, wpAny_letOwnedTupleGo_enum (s := { s with heap := h', toks := tk + 1 }) ho fun h2 he' sb => ?_⟩
    have hT2 : h2.get? s.heap.objs.size = some { cls := .type "tuple", data := .seq #[.int i tk, y] } := (sb.2 _ (Nat.ne_of_gt hel)).trans hT
    have new : ObjOk X.prog X.w (upd H s.heap.objs.size (.frz { cls := .type "tuple", data := .seq #[.int i tk, y] } (.tup [.int (i : Nat), x]))) h2 s.heap.objs.size (.frz { cls := .type "tuple", data := .seq #[.int i tk, y] } (.tup [.int (i : Nat), x])) :=
      ⟨hT2, by show 2 ≤ sizeLine; decide, [.int i tk, y], .cons ⟨_, rfl⟩ (.cons ru .nil), ⟨_, hT2, rfl, _, rfl⟩⟩
    have I1 : Inv X pins σ (upd H s.heap.objs.size (.frz { cls := .type "tuple", data := .seq #[.int i tk, y] } (.tup [.int (i : Nat), x]))) { s with heap := h2, toks := tk + 1 } :=
      I.turnedNew (ch := [e, it]) (fun c oc away q => (sb.2 c (fun z => away (by simp [z]))).trans (hk c oc (fun z => away (by simp [z])) (fun z => away (by simp [z])) q)) hf (Nat.le_refl _) new
    refine ⟨.ref s.heap.objs.size, _, I1, rfl, ⟨_, x, _, rfl, I.hok.fresh (Nat.le_refl _), rfl, rfl, fun ys hy' => by rw [I.tuple_inj hy' hq]; exact hx⟩, ⟨⟨y, ?_⟩, st1.1.at fun o q => (sb.2 it (Ne.symm ne)).trans q, ne⟩, fun b hb => ?_⟩
    · rw [show ((i + 1 : Nat) : Int) = (i : Int) + 1 from by omega]; exact he'
    · have lb : b < s.heap.objs.size := by
        have z : b = e ∨ b = it := by simpa using hb
        rcases z with z | z <;> subst z <;> assumption
      rw [upd_ne (Nat.ne_of_lt lb)]
      exact (hf b hb).1
  done := by
    intro X hP hw hK hc i pins s σ H E I hf st hg
    subst hP hw hK
    obtain ⟨⟨old, he⟩, hit, ne⟩ := st
    obtain ⟨xs, hq, hx⟩ := hg
    obtain ⟨its, rv, p, hz⟩ := I.tuple hq
    have p1 : s.heap.IsTuple a its.toArray := p
    obtain ⟨f0, f1, f2, f3, f4, f5⟩ := hf it (by simp)
    have hl := rv.length
    have D : wpAny (model X.prog X.w) X.A (pyNext (.ref e)) (fun o s' => o = none ∧ Inv X pins σ H s') E s := by
      have hTy : s.TypeIs (.ref e) "enumerate" := ⟨_, he, rfl⟩
      unfold pyNext
      refine wpAny_bind (wpAny_attempt (wpAny_callSpecial?_slot (name := Str.ofString "__next__") hTy F.slot_enumerate_next (wpAny_call_entry F.slot_enumerate_next hTy F.entry_enumerate_next ?_ (F.args_enumerate_next_1 _))))
      show wpAny _ _ (field (.ref e) 2 >>= _) _ _ _
      refine wpAny_bind (wpAny_field he rfl (x := .ref it) rfl ?_)
      refine wpAny_bind (wpAny_nextOf_tuple_end (A := X.A.in1) (I.ok.hd hc) hit p1 (by simp; omega) fun h' x eb hx' => ?_)
      obtain ⟨o, ho, hcl⟩ := hx'
      refine wpAny_bind (wpAny_isInstance (T := "StopIteration") (b := true) ⟨o, ho, hcl⟩ isSubtype_stop ?_)
      exact wpAny_pure ⟨rfl, I.turned (t' := s.toks) (fun b o hb q => eb b o hb q) f0 f1 f3 f4 f5⟩
    exact D
  self := fun _ _ _ _ _ st h => st.1.elim fun _ he => wpAny_pyIter_enum he h
def iEnT (K : PySem.W.Frag) (ta : TA) : TI := fun σ H R => ta σ H fun vs H1 => ∃ a xs, vs = [.ref a] ∧ SqT K H1 a xs ∧ R (Iet K a) H1
theorem pi_enumT {X : Cx} {e : Expr} {ta : TA} {p pos tpos : Pos} {elts : List Expr} {kk : Nat} (hg : Gl X "enumerate") (hm : X.mg "enumerate" = none) (ha : PA X [e] ta) (hs : starEach [e] X.env = [(false, eval e X.env)] := by rfl) :
    PI X (.Tuple elts kk tpos) (.Call (.Name "enumerate" p) [e] [] pos) (iEnT X.K ta) := by
  refine ⟨fun pins s σ H R I h => ?_⟩
  refine Call_ (ld_blt I hg hm boot_enumerate (callWith_type1 (thn (ha.run pos pins s σ H _ I h) fun us s1 ⟨vs, H1, I1, r1, q1⟩ => ?_) hs rfl))
  obtain ⟨a, xs, ex, hq, q⟩ := q1
  subst ex
  cases r1 with
  | cons r rr =>
    cases rr
    cases r
    obtain ⟨its, rv, p', hz⟩ := I1.tuple hq
    refine enumCall (begins_tuple a its.toArray) p' fun h' he hit hk => wpAny_pyIter_enum he ?_
    have I2 : Inv X pins σ H1 { s1 with heap := h' } :=
      I1.kept (t' := s1.toks) hk
    refine ⟨s1.heap.objs.size + 1, [s1.heap.objs.size + 1, s1.heap.objs.size], _, _, H1, rfl, I2, turn_enumT a (s1.heap.objs.size + 1) s1.heap.objs.size, ⟨⟨.none, he⟩, ⟨_, hit, rfl, rfl⟩, Nat.succ_ne_self _⟩, fun b hb => ?_, q⟩
    have hle : s1.heap.objs.size ≤ b := by
      have z : b = s1.heap.objs.size + 1 ∨ b = s1.heap.objs.size := by simpa using hb
      rcases z with z | z <;> rw [z]
      · exact Nat.le_add_right _ _
      · exact Nat.le_refl _
    exact I1.fpOk hle (I1.hok.fresh hle)
end MU

namespace MU
open PySem PySem.Spec PyProof.Rows L2
/-! a set whose members are ints, texts and None -/
def SetNo (w : World) (a : Addr) (S : Option Key → Bool) (n : Nat) : HO := .ext fun h => ∀ P : Program, h.SetOf (noneKind P w) a S n
def nkV : Option Key → V
  | none => .non
  | some k => kV k
theorem nk_is (P : Program) (w : World) {k : Option Key} {u : Value} (r : RelV (nkV k) u) : nkIs k u = true ∧ u.scannable = true := by
  cases k with
  | none =>
    obtain rfl : u = Value.none := r
    exact ⟨rfl, rfl⟩
  | some k => exact ⟨kV_is (P := P) (w := w) (k := k) r, key_scan (k := k) r⟩
section
variable {X : Cx}
theorem setNo_new {w : World} {P : Program} {H : Hp} {h : Heap} {a : Addr} {S : Option Key → Bool} {n : Nat} (R : h.SetOf (noneKind P w) a S n) : ObjOk P w H h a (SetNo w a S n) := by
  have ⟨o, _, _, _, ho, _⟩ := R
  refine ⟨fun _ => R, ⟨o, ho⟩, fun h1 h2 p k P' => ?_⟩
  obtain ⟨o1, es, ep, t, h3, r⟩ := p P'
  exact ⟨o1, es, ep, t, k o1 h3, r⟩
theorem setNo_get {pins : List (Addr × Obj)} {σ : L2.St} {H : Hp} {s : Shared} {a : Addr} {S : Option Key → Bool} {n : Nat} (I : Inv X pins σ H s) (ha : H a = some (SetNo X.w a S n)) : s.heap.SetOf (noneKind X.prog X.w) a S n := (I.hok a _ ha).1 X.prog
def rSet0N (w : World) : List V → Hp → VK → Prop := fun xs H Q => xs = [] ∧ ∀ p, H p = none → Q (.ref p) (upd H p (SetNo w p (fun _ => false) 0))
theorem cr_set0N : CallR X (.type "set") (rSet0N X.w) := by
  intro pins s σ H xs us Q I r ⟨e, q⟩
  subst e
  cases r
  refine setR_new fun _ => ?_
  have fresh : (s.heap.push { cls := .type "set", dict := none, data := .set #[] 0 (.fresh 0 0 (!X.w.params.followText "set-order")) }).SetOf (noneKind X.prog X.w) s.heap.objs.size (fun _ => false) 0 :=
    ⟨_, #[], 0, _, Heap.get?_push_size _ rfl, ⟨rfl, rfl, rfl⟩, rfl, (fun _ z => by simp at z), (fun _ => by simp), by decide, by rfl, rfl⟩
  refine ⟨.ref _, _, I.laid (t' := s.toks) (fun b u e => Heap.get?_push_of_some _ e) (Nat.le_refl _) (setNo_new (H := upd H s.heap.objs.size (SetNo X.w s.heap.objs.size (fun _ => false) 0)) fresh), rfl, ?_⟩
  exact q _ (I.hok.fresh (Nat.le_refl _))
def rSAddN (w : World) : V → List V → Hp → VK → Prop := fun x xs H Q => ∃ (a : Addr) (k : Option Key) (S : Option Key → Bool) (n : Nat), x = V.ref a ∧ xs = [nkV k] ∧ H a = some (SetNo w a S n) ∧ n + 1 < scanBound ∧
  Q .non (upd H a (SetNo w a (fun j => S j || decide (j = k)) (if S k = true then n else n + 1)))
def tSAddN (w : World) (to : TE) (t : TA) : TE := fun σ H Q => to σ H fun x H1 => (∃ a S n, x = V.ref a ∧ H1 a = some (SetNo w a S n)) ∧ t σ H1 fun xs H2 => rSAddN w x xs H2 Q
theorem saddN {pins : List (Addr × Obj)} {σ : L2.St} {H : Hp} {s : Shared} {xs : List V} {us : List Value} {a : Addr} {Q : VK} (I : Inv X pins σ H s) (r : Vals xs us) (h : rSAddN X.w (.ref a) xs H Q) :
    wpAny (model X.prog X.w) X.A (call (.builtin "set.add") (.ref a :: us)) (EP X pins σ Q) X.xe s := by
  obtain ⟨a', k, S, n, e, rfl, ha, room, q⟩ := h
  cases e
  cases r with
  | cons ry rt =>
    cases rt
    have kk := nk_is X.prog X.w ry
    refine call_set_add (knd := noneKind X.prog X.w) kk.1 kk.2 (setNo_get I ha) room fun h' sb new => ?_
    have live : ∃ u, h'.get? a = some u := by
      have ⟨o, _, _, _, ho, _⟩ := new
      exact ⟨o, ho⟩
    refine ⟨.non, _, I.write (e := a) (t' := s.toks + 1) (by rw [ha]; trivial) (.inl rfl) (fun b u hb hu => (sb.2 b hb).trans hu) live (setNo_new (H := upd H a (SetNo X.w a (fun j => S j || decide (j = k)) (if S k = true then n else n + 1))) new), rfl, q⟩
theorem pe_saddN {o e : Expr} {to : TE} {t : TA} {apos cpos : Pos} (ho : PE X o to) (ha : PA X [e] t)
    (base_ : attributeBase o "add" X.env (eval o X.env) = eval o X.env := by rfl)
    (hfew : ((backTo cpos (starEach [e] X.env)).all (fun x => !x.1) && (backToKw cpos (keywordEach [] X.env)).all (fun x => x.1.isSome) && decide ([e].length + ([] : List Keyword).length + (if ([] : List Keyword).isEmpty then 0 else 1) < 30)) = true := by rfl)
    (hline : (apos.endLine == cpos.line) = true := by rfl) (hs : starEach [e] X.env = (false, eval e X.env) :: starEach [] X.env := by rfl) (hplain : (backTo cpos (starEach ([] : List Expr) X.env)).any (·.1) = false := by rfl) :
    PE X (.Call (.Attribute o "add" apos) [e] [] cpos) (tSAddN X.w to t) := by
  refine ⟨fun pins s σ H Q I h => ?_⟩
  refine wpAny_Call_method_late base_ hfew hline rfl (thn (ho.run pins s σ H _ I h) fun v s1 ⟨x, H1, I1, r1, ⟨a, S, n, ex, ea⟩, q1⟩ => ?_)
  subst ex
  have hS := setNo_get I1 ea
  cases r1
  refine ⟨"set", "set.add", PySem.F.plainAttrs_set, PySem.F.slot_set_add, PySem.F.type_set_add, hS.typeIs, hS.noDict, ?_⟩
  have hA := ha.run cpos pins s1 σ H1 _ I1 q1
  rw [hs] at hA ⊢
  refine Calls.callWith_builtin (by show (false || (backTo cpos (starEach ([] : List Expr) X.env)).any (·.1)) = false; rw [hplain] <;> rfl) (Calls.evalArgs_plain (thn hA fun us s2 ⟨vs, H2, I2, r2, q2⟩ => saddN I2 r2 q2))
def rSInN (w : World) (neg : Bool) : R2 := fun x y H Q => ∃ (k : Option Key) (a : Addr) (S : Option Key → Bool) (n : Nat), x = nkV k ∧ y = V.ref a ∧ H a = some (SetNo w a S n) ∧ Q (.bl (if neg then !S k else S k)) H
theorem or_sinN : OpR X (compareOp .In) (rSInN X.w false) := by
  intro pins s σ H x y v u Q I rx ry ⟨k, a, S, n, ex, ey, ha, q⟩
  subst ex ey
  cases ry
  exact wpAny_inSet_of (knd := noneKind X.prog X.w) (nk_is X.prog X.w rx).1 (nk_is X.prog X.w rx).2 (setNo_get I ha) ⟨.bl (S k), H, I.tok _, rfl, q⟩
theorem or_snotinN : OpR X (compareOp .NotIn) (rSInN X.w true) := by
  intro pins s σ H x y v u Q I rx ry ⟨k, a, S, n, ex, ey, ha, q⟩
  subst ex ey
  cases ry
  exact wpAny_notInSet_of (knd := noneKind X.prog X.w) (nk_is X.prog X.w rx).1 (nk_is X.prog X.w rx).2 (setNo_get I ha) ⟨.bl (!S k), H, I.tok _, rfl, q⟩
/-! t.index(x), the items told by eqV -/
def rTIndex (K : PySem.W.Frag) : V → List V → Hp → VK → Prop := fun x xs H Q => ∃ (a : Addr) (ys : List V) (y : V) (j : Nat) (z : V), x = V.ref a ∧ xs = [y] ∧ SqT K H a ys ∧ flatV y = true ∧ ys.all flatV = true ∧ ys[j]? = some z ∧ eqV z y = true ∧
  (∀ (i : Nat) (u : V), i < j → ys[i]? = some u → eqV u y = false) ∧ Q (.int (j : Nat)) H
theorem mt_tindex : MtR X "tuple.index" (rTIndex X.K) := by
  intro pins s σ H x xs v us Q I rx rxs ⟨a, ys, y, j, z, ex, exs, hq, fy, fys, hz, ez, no, q⟩
  subst ex exs
  cases rx
  cases rxs with
  | cons ry rt =>
    rename_i uy ut
    cases rt
    obtain ⟨its, rv, pl, hsz⟩ := I.tuple hq
    obtain ⟨⟨cls, dd, dt, sl⟩, ho, hc, n, hd⟩ := pl
    simp only at hc hd
    subst hc hd
    have at_ : ∀ (m : Nat) (hm : m < its.toArray.size) (z' : V), ys[m]? = some z' → eqU y its.toArray[m] = eqV z' y := fun m hm z' e => by
      obtain ⟨u, hu, ru⟩ := rv.get e
      have e1 : its.toArray[m] = u := by
        obtain ⟨_, q⟩ := List.getElem?_eq_some_iff.mp hu
        simpa using q
      rw [e1]
      exact eqU_of ru (flat_at fys e)
    have len := rv.length
    have hj : j < its.toArray.size := by
      have := (List.getElem?_eq_some_iff.mp hz).1
      simp
      omega
    refine call_meets PySem.F.slot_tuple_index ⟨_, ho, rfl⟩ PySem.F.entry_tuple_index (PySem.F.args_tuple_index_2 _ _) (TI.tuple_indexAt a its.toArray n dd sl uy (eqU y) j hj ?_ ?_)
      ⟨ho, fun w hw => mem_eqAt ry fy rv fys w (by simpa using hw), ⟨.int (j : Nat), H, I.tok _, ⟨_, rfl⟩, q⟩⟩
    · rw [at_ j hj z hz]
      exact ez
    · intro m hm hmj
      have l : m < ys.length := by
        have := (List.getElem?_eq_some_iff.mp hz).1
        omega
      rw [at_ m hm _ (List.getElem?_eq_getElem l)]
      exact no m _ hmj (List.getElem?_eq_getElem l)
end
end MU

namespace MU
open PySem PySem.Spec PyProof.Rows L2
open PySem.W (codeIn)
/-! ## defs that show values: nothing is being shown where they are called -/
structure FnG (P : Program) (w : World) (K : PySem.W.Frag) (mg : Str → Option Value) (base : Heap) (k : Nat) (f : Addr) (fd : FuncData) (ps : List Str) (sp : Sp) : Prop where
  len : ∀ vs H Q E,
        sp vs H Q E → vs.length = ps.length
  run : ∀ (A : Around), A.guards = some [] → ∀ (outer : List Env) (s : Shared) (H : Hp) (args : Args) (us : List Value) (vs : List V) (Q : VK) (E : XK), Room k A → Env0 P w K mg base A outer s H → BindsTo s fd args (ps.zip us) → Vals vs us → sp vs H Q E →
    codeAny (model P w) A (.call (.ref f) args) (CR CX0 outer P w H s Q E) s
section
variable {P : Program} {w : World} {K : PySem.W.Frag} {mg : Str → Option Value} {base : Heap}
theorem fun_okG {x qual : Str} {st : Stmt} {f : Addr} {fd : FuncData} {N ps : List Str} {k : Nat} {sp : Sp} (F : Fun K x qual st f fd) (S : FnScope N ps (defScope st)) (len : ∀ vs H Q E, sp vs H Q E → vs.length = ps.length)
    (hb : ∀ (cdv : Value), codeIn K cdv qual = true → ∀ (A : Around) (outer : List Env) (s : Shared) (H : Hp) (vs : List V) (Q : VK) (E : XK), A.guards = some [] → Room k (A.deeper (PyProof.Rows.envOfC qual (defScope st) s.heap.objs.size f cdv)) → sp vs H Q E →
      ∃ t, PSs (cxOf CX0 P w K mg base N qual (defScope st) f cdv A outer s H E).nox (defBody st) t ∧ t { nx := fun _ H' => Q .non H', rt := Q } (L2.start N vs) H) : FnG P w K mg base (k + 1) f fd ps sp := by
  obtain ⟨_, _, _, _, _, _, cdv, _, _, e0, lk, hcd⟩ := F.ex
  subst e0
  refine ⟨len, fun A hg outer s H args us vs Q E room env0 bind rel want => ?_⟩
  have up : ∀ b o, base.get? b = some o → s.heap.get? b = some o := fun b o e => (env0.bs b o e).1
  have inK : K.In s.heap := env0.mod.kin.keeps up
  refine codeAny_call_function room.depth (inK _ _ lk) rfl S.co S.gen rfl (PySem.W.codeRec_of inK hcd) (bind _ _ _ _ ?_)
  refine wpAny_newFunctionEnv_cells S.kind (fun ⟨n, v⟩ hy => ?_) fun env he s1 call => ?_
  · exact (S.par n (List.of_mem_zip hy).1).imp id fun q => ⟨q, PySem.W.cellsFrom_some _ _ _ (.inl q)⟩
  subst he
  obtain ⟨t, derived, ends⟩ := hb cdv hcd A outer s H vs Q E hg (room.deeper _) want
  have I := inv_start (CX := CX0) (E := E) S room.hd env0 (len _ _ _ _ want) rel call
  refine ⟨(env0.mod.nolimit.keeps up).keeps call.toInCall.keep, codeAny_func (wpAny_mono (derived.nox.run [] s1 (L2.start N vs) H _ I ends) (fun fl s' got => ?_) fun _ _ z => z)⟩
  match fl, got with
  | .ret u, ⟨v, σ', H', J, rv, q⟩ => exact ⟨v, H', J.os, J.bare, J.base, J.hok, rv, q⟩
  | .next, ⟨σ', H', J, q⟩ => exact ⟨V.non, H', J.os, J.bare, J.base, J.hok, (rfl : Value.none = Value.none), q⟩
  | .brk, ⟨_, _, _, q⟩ => exact q.elim
  | .cont, ⟨_, _, _, q⟩ => exact q.elim
end
section
variable {X : Cx} {k : Nat} {f : Addr} {fd : FuncData} {ps : List Str} {sp : Sp} {E : XK} {x : Str} {p pos : Pos} {e : Expr} {es : List Expr} {t : TA}
theorem run_fnG {pins : List (Addr × Obj)} {σ : L2.St} {H : Hp} {s : Shared} {Q : VK} {us : List Value} {vs : List V} (F : FnG X.prog X.w X.K X.mg X.base k f fd ps sp) (hg : X.A.guards = some []) (hr : Room k X.A) (hb : Binds X.K fd ps []) (I : Inv X pins σ H s) (r : Vals vs us) (h : sp vs H Q E) :
    wpAny (model X.prog X.w) X.A (call
          (.ref f) us) (EP X pins σ Q) X.xe s := by
  have hb2 := hb s us I.kIn (by rw [List.append_nil, ← r.length]; exact F.len _ _ _ _ h)
  rw [List.append_nil] at hb2
  refine wpAny_call (codeAny_mono (F.run X.A hg X.stack s H _ us vs Q E hr I.env0 hb2 r h) fun out s' got => ?_)
  match out, got with
  | .ok (.ret u), q => exact I.after q
  | .error _, q => exact q.elim
theorem pe_callG (F : FnG X.prog X.w X.K X.mg X.base k f fd ps sp) (hgd : X.A.guards = some []) (hr : Room k X.A) (hg : Gl X x) (hm : X.mg x = some (.ref f)) (hk : PySem.W.keepIn X.K (.ref f) = true) (hb : Binds X.K fd ps [])
    (ha : PA X (e :: es) t) (hdb : (x == ("__debug__" : Str)) = false := by decide) (he : starEach (e :: es) X.env = (false,
          eval e X.env) :: starEach es X.env := by rfl) (hpl : (backTo pos (starEach es X.env)).any (·.1) = false := by rfl) :
    PE X (.Call (.Name x p) (e :: es) [] pos) (tCall sp [] E0 t) :=
  ⟨fun pins s σ H Q I h => wpAny_Call_Name_kw (ld_glob I hg hm (PySem.W.callWith_K (h₀ := X.base) I.ok.mod.kin hk (thn (ha.run pos pins s σ H _ I h) fun us s1 ⟨vs, H1, I1, r, q⟩ => ⟨I1.kIn, run_fnG (E := E0) F hgd hr hb I1 r (by have q2 : sp (vs ++ []) H1 Q E0 := q; rw [List.append_nil] at q2; exact q2)⟩) he hpl) hdb)⟩
end
/-- the law's own call -/
theorem law_callG {P : Program} {w : World} {K : PySem.W.Frag} {mg mb : Str → Option Value} {k : Nat} {fa a : Addr} {fd : FuncData} {x : Str} {sp : Sp} {s1 : Shared} {vs : List Value} {ns : List Int}
    (KX : K.In s1.heap) (hns : s1.heap.Ns mainGlobals mg) (hb : s1.heap.Ns builtinsNs mb) (hbb : ∀ x : Str, x ≠ "__name__" → mb x = bootBuiltins x) (hlim : s1.heap.NoLimit) (hg : s1.gens = #[])
    (ha : s1.heap.get? a = some { cls := .type "list", data := .seq vs.toArray }) (hi : IntsAre vs ns) (hl : ns.length ≤ sizeLine) (hr : Room k callerA)
    (F : ∀ base : Heap, K.In base → base.Ns mainGlobals mg → FnG P w K mg base k fa fd [x] sp) (hbind : ∀ (s : Shared) (u : Value), BindsTo s fd ⟨[u], []⟩ [(x, u)])
    (hsp : ∀ H : Hp, Only H → SqL K H a (ns.map V.int) → sp [.ref a] H (fun v _ => v = .bl true) fun _ _ _ => False) :
    codeAny (model P w) callerA (.call (.ref fa) ⟨[.ref a], []⟩) (fun r s' => r = .ok (.ret (.bool true)) ∧ OldK s1.heap s'.heap ∧ s'.os = s1.os ∧ AllBare s'.gens) s1 := by
  let H : Hp := fun b => if b = a ∧ K.lookup a = none then some (.frz { cls := .type "list", data := .seq vs.toArray } (.lst (ns.map V.int))) else none
  have at_ : ∀ b u, H b = some u → b = a ∧ K.lookup a = none ∧ u = .frz { cls := .type "list", data := .seq vs.toArray } (.lst (ns.map V.int)) := fun b u z => by
    by_cases c : b = a ∧ K.lookup a = none
    · have y := (if_pos c).symm.trans z
      cases y
      exact ⟨c.1, c.2, rfl⟩
    · have y := (if_neg c).symm.trans z
      cases y
  have off : ∀ b, (∀ u, H b ≠ some u) → H b = none := fun b n => by
    cases q : H b with
    | none => rfl
    | some u => exact absurd q (n u)
  have seq : SqL K H a (ns.map V.int) := by
    cases lk : K.lookup a with
    | none => exact .inl (.inr ⟨_, if_pos ⟨rfl, lk⟩⟩)
    | some o =>
      have same := KX a o lk
      rw [ha] at same
      cases same
      exact .inr ⟨_, vs.toArray, _, lk, rfl, rfl, rfl, by rw [List.size_toArray, hi.length]; exact hl, by simpa using vals_ints hi⟩
  have ok : HOk P w H s1.heap := fun b u z => by
    obtain ⟨rfl, _, rfl⟩ := at_ b u z
    exact ⟨ha, by rw [List.length_map]; exact hl, vs, _, vals_ints hi, ha⟩
  have notK : ∀ b o, K.lookup b = some o → H b = none := fun b o e => off b fun u z => by
    obtain ⟨rfl, n, _⟩ := at_ b u z
    rw [n] at e
    cases e
  have notD : ∀ {b : Addr} {o : Obj} {es : Array DictEntry} {ep : Nat}, s1.heap.get? b = some o → o.data = .dict es ep → H b = none := fun {b o es ep} e d => off b fun u z => by
    obtain ⟨rfl, _, _⟩ := at_ b u z
    rw [ha] at e
    cases e
    cases d
  have ns_ : ∀ {b : Addr} {m : Str → Option Value}, s1.heap.Ns b m → (hidT s1.heap H).Ns b m := fun ⟨o, es, ep, e, d, r⟩ => ⟨o, es, ep, hidT_get e (notD e d), d, r⟩
  have inK : K.In (hidT s1.heap H) := fun b o e => hidT_get (KX b o e) (notK b o e)
  have envs : Env0 P w K mg (hidT s1.heap H) callerA [] s1 H :=
    ⟨rfl, ⟨inK, ns_ hns, ⟨mb, ns_ hb, hbb⟩, hlim.elim fun mc h => ⟨mc, ns_ h.1, h.2⟩⟩, fun b o e => of_hidT e, Nat.le_of_eq (hidT_size _ _), trivial, fun b hb => absurd (show b ∈ ([] : List Addr) from hb) List.not_mem_nil, ok, .of_eq hg⟩
  have only : Only H := fun b => by
    cases q : H b with
    | none => exact .inl rfl
    | some u =>
      obtain ⟨_, _, rfl⟩ := at_ b u q
      exact .inr ⟨_, _, rfl⟩
  refine codeAny_mono ((F _ inK (ns_ hns)).run callerA rfl [] s1 H ⟨[.ref a], []⟩ [.ref a] [.ref a] _ _ hr envs (hbind s1 (.ref a)) (.cons rfl .nil) (hsp H only seq)) fun out s' got => ?_
  match out, got with
  | .error _, z => exact z.elim
  | .ok (.ret u), ⟨v, H', os, bare, un, ok', rv, q⟩ =>
    obtain rfl : v = .bl true := q
    obtain rfl : u = Value.bool true := rv
    refine ⟨rfl,
          OldK.of_keep fun b o e => ?_, os, bare⟩
    cases z : H b with
    | none => exact un.keep b o e z (fun y => absurd (show b ∈ ([] : List Addr) from y) List.not_mem_nil) (fun y => absurd (show b ∈ ([] : List Addr) from y) List.not_mem_nil)
    | some u =>
      obtain ⟨rfl, _, rfl⟩ := at_ b u z
      obtain ⟨e2, _⟩ := ok' b _ (un.frzs b _ _ z)
      rw [ha] at e
      cases e
      exact e2
theorem walk_ofG {l : PySem.W.OpenLaw} {n k : Nat} {q : Program} {loose : List Str} {XP : (Str → Option Value) → Heap → Prop} {YP : World → Heap → Prop} {d : DefRec} {K : Params → PySem.W.Frag} {sp : World → Sp} {x : Str}
    (hn : l.most = some n) (hn2 : n ≤ sizeLine) (hdf : d.params.defaults = []) (hr : Room k callerA) (hY : ∀ (w : World) (h : Heap),
          YP w h → (K w.params).In h)
    (F : ∀ (w : World) (mg : Str → Option Value) (fa : Addr) (h : Heap),
          (K w.params).In h → h.Ns mainGlobals mg → mg d.name = some (.ref fa) →
      ∃ fd : FuncData, (∀ (s : Shared) (u : Value), BindsTo s fd ⟨[u], []⟩ [(x, u)]) ∧ ∀ base : Heap, (K w.params).In base → base.Ns mainGlobals mg → FnG l.prog w (K w.params) mg base k fa fd [x] (sp w))
    (hsp : ∀ (w : World) (H : Hp) (a : Addr) (ns : List Int), ns.length ≤ n → Only H → SqL (K w.params) H a (ns.map V.int) → sp w [.ref a] H (fun v _ => v = .bl true) fun _ _ _ => False) :
    PySem.W.WalkO q loose XP YP l.row.toRowW
          d [] (fun f vs => PySem.call f vs) :=
  Att.attach_call hn hdf fun w s0 s1 mg mb fa o pm cd doc a vs ns G Y _ _ _ hmg hobj hints hlen hg => by
    obtain ⟨fd, bind, hF⟩ := F w mg fa _ (hY w _ Y) G.T.g hmg
    exact law_callG (hY w _ Y) G.T.g G.T.b G.T.builtins G.T.nolimit hg hobj hints (Nat.le_trans hlen hn2) hr hF bind fun H o1 o2 => hsp w H a ns hlen o1 o2
end MU

namespace MU
open PySem PySem.Spec PyProof.Rows L2
/-! t * k, k ≥ 1 -/
def rRepT1 (K : PySem.W.Frag) : R2 := fun x y H Q => ∃ l k xs, x = .ref l ∧ y = .int k ∧ SqT K H l xs ∧ xs ≠ [] ∧ 1 ≤ k ∧ k ≤ 1000 ∧ xs.length ≤ 1000 ∧ (k = 1 → Q (.ref l) H) ∧ (k ≠ 1 → ∀ p, H p = none → NewT H p (List.replicate k.toNat xs).flatten Q)
theorem tup_mul1' (l : Addr) (items : Array Value) (n : Nat) (dd : Option Addr) (sl : Array (Option Value)) (u : Tok) :
    Meets (Builtin.«tuple.__mul__» ⟨[.ref l, .int 1 u], []⟩) (fun _ R s => s.heap.get? l = some { cls := .type "tuple", dict := dd, data := .seq items n, slots := sl } ∧ R (.ok (.ret (Value.ref l))) s) :=
  .of_wp fun prog w A R s h => by
    obtain ⟨hp, g, d, tk, os⟩ := s
    obtain ⟨hl, h⟩ := h
    have f1 := AutoSeq1.idx_int
    have c0 : (decide ((1 : Int) < -(2 ^ 63)) || decide ((1 : Int) ≥ 2 ^ 63)) = false := by decide
    have c1 : (items.isEmpty || (1 : Int) == 1) = true := by rw [show ((1 : Int) == 1) = true from rfl, Bool.or_true]
    wp_walk using wpAny_loadPart' hl
    repeat (first
      | (refine wpAny_ite_false (decide_eq_false (fun z => Bool.false_ne_true (c0.symm.trans z))) ?_; wp_walk using wpAny_loadPart' hl)
      | (refine wpAny_ite_true (decide_eq_true (by rw [c1])) ?_; wp_walk using wpAny_loadPart' hl))
    exact ⟨_, rfl, h⟩
section
variable {X : Cx}
theorem op_repT1 : OpR X (binaryOp .Mult) (rRepT1 X.K) := by
  intro pins s σ H x y v u Q I rx ry ⟨l, k, xs, ex, ey, hT, hne, h1, h2, hz, q1, q2⟩
  by_cases c : k = 1
  · subst ex ey c
    cases rx
    obtain ⟨t, rfl⟩ := ry
    obtain ⟨its, r, ⟨⟨cls, dd, data,
          sl⟩, ho, hc, n, hd⟩, hs⟩ := I.tuple hT
    simp only at hc hd
    subst hc hd
    refine wpAny_binaryOp_repeat_ref (T := "tuple") (U := "int") (by decide) ⟨_, ho, rfl⟩ (fun s' => typeIs_int s' 1 t) noFill_tuple_mul F.fills_int_mul F.slot_int_rmul repeat_tuple F.slot_int_index.lookup
      (call_meets F.slot_int_rmul (typeIs_int s 1 t) F.entry_int_rmul (F.args_int_rmul_2 _ _) (int_rmul_tuple 1 t l its.toArray n dd sl) ⟨ho, rfl, ⟨_, ho, rfl⟩, ?_⟩)
    exact call_meets F.slot_tuple_mul ⟨_, ho, rfl⟩ F.entry_tuple_mul (F.args_tuple_mul_2 _ _) (tup_mul1' l its.toArray n dd sl t) ⟨ho, ⟨.ref l, H, I.tok s.toks, rfl, q1 rfl⟩⟩
  · subst ex ey
    cases rx
    obtain ⟨t, rfl⟩ := ry
    obtain ⟨its, r, ⟨⟨cls, dd, data,
          sl⟩, ho, hc, n, hd⟩, hs⟩ := I.tuple hT
    simp only at hc hd
    subst hc hd
    have len : its.toArray.size = xs.length := by rw [List.size_toArray]; exact r.length.symm
    have some_ : its.toArray.isEmpty = false := by
      cases its with
      | nil => cases r; exact absurd rfl hne
      | cons a b => rfl
    have flat : (List.replicate k.toNat its).flatten.length ≤ 1000000 := by
      rw [PyProof.Rows.lm_len_rep_flat, ← r.length]
      exact Nat.le_trans (Nat.mul_le_mul (show k.toNat ≤ 1000 by omega) hz) (by decide)
    have prod : ((its.toArray.size : Nat) : Int) * k ≤ 1000000 := by
      rw [len]
      exact Int.le_trans (Int.mul_le_mul_of_nonneg_right (show ((xs.length : Nat) : Int) ≤ 1000 by omega) (by omega)) (by omega)
    have e1 : (decide (k < -(2 ^ 63)) || decide (k ≥ 2 ^ 63)) = false := by rw [decide_eq_false (by omega), decide_eq_false (by omega)]; rfl
    have e2 : (its.toArray.isEmpty || k == 1) = false := by rw [some_, Bool.false_or]; exact beq_eq_false_iff_ne.mpr c
    have e3 : (decide (k ≤ 0) || its.toArray.isEmpty) = false := by rw [some_, Bool.or_false]; exact decide_eq_false (by omega)
    have e4 : Builtin.Tuple.tupleTooMany (((its.toArray.size : Nat) : Int) * k) = false := by
      unfold Builtin.Tuple.tupleTooMany
      rw [sizeLine_eq]
      exact decide_eq_false (by omega)
    have big : 1000000 ≤ sizeLine := by rw [sizeLine_eq]; decide
    refine wpAny_binaryOp_repeat_ref (T := "tuple") (U := "int") (by decide) ⟨_, ho,
          rfl⟩ (fun s' => typeIs_int s' k t) noFill_tuple_mul F.fills_int_mul F.slot_int_rmul repeat_tuple F.slot_int_index.lookup
      (call_meets F.slot_int_rmul (typeIs_int s k t) F.entry_int_rmul (F.args_int_rmul_2 _ _) (int_rmul_tuple k t l its.toArray n dd sl) ⟨ho, rfl, ⟨_, ho, rfl⟩, ?_⟩)
    refine call_meets F.slot_tuple_mul ⟨_, ho, rfl⟩ F.entry_tuple_mul (F.args_tuple_mul_2 _ _) (tuple_mulW l its.toArray n dd sl k t e1 e2 e3 (by omega) e4 (by rw [size_rep, List.size_toArray]; exact Nat.le_trans flat big)) ⟨ho, ?_⟩
    rw [size_rep]
    exact laidT (s := s) (h' := s.heap) (tk := s.toks) I (r.rep k.toNat) (by rw [(r.rep k.toNat).length]; exact Nat.le_trans flat big) (q2 c)
/-! repr(x), x data -/
def rRepr (K : PySem.W.Frag) : List V → Hp → VK → Prop := fun xs H Q => ∃ x d, xs = [x] ∧ Dp K H x d ∧ d.showable = true ∧ d.hasDict = false ∧ d.depth ≤ 60 ∧ d.shown.length ≤ sizeLine ∧ Q (.str d.shown) H
theorem cr_repr (hg : X.A.guards = some []) (hu : X.A.units + 64 < cLine) : CallR X (.builtin "repr") (rRepr X.K) := by
  intro pins s σ H xs us Q I r ⟨x, d, e, hd, hs, hn, hdp, hl, q⟩
  subst e
  cases r with
  | cons rx rt =>
    rename_i u ut
    cases rt
    obtain ⟨as, rd⟩ := Dp.reads I d x u hd rx
    have fin : ∀ (h' : Heap) (tk0 tk : Tok), (∀ b o, s.heap.get? b = some o → h'.get? b = some o) → EP X pins σ Q (.str d.shown tk0) { s with heap := h', toks := tk } := fun h' tk0 tk hk => ⟨.str d.shown, H, I.kept (t' := tk) hk, ⟨_, rfl⟩, q⟩
    cases rd with
    | int => exact PySem.P.repr_of_int (of_decide_eq_true hs) (fin s.heap _ _ fun _ _ e => e)
    | none => exact PySem.P.repr_of_none (fin s.heap _ _ fun _ _ e => e)
    | bool => exact PySem.P.repr_of_bool (fin s.heap _ _ fun _ _ e => e)
    | str => exact PySem.P.repr_of_str (fin s.heap _ _ fun _ _ e => e) hl
    | list h1 h2 h3 h4 => exact repr_of_reads' (.list h1 h2 h3 h4) hs (fun e => by rw [hn] at e; cases e) hg (by omega) (fun _ _ e => e) (fun h' tk0 tk hk => fin h' tk0 tk hk) hl
    | tuple h1 h2 h3 h4 => exact repr_of_reads' (.tuple h1 h2 h3 h4) hs (fun e => by rw [hn] at e; cases e) hg (by omega) (fun _ _ e => e) (fun h' tk0 tk hk => fin h' tk0 tk hk) hl
    | dict h1 h2 h3 h4 h5 => cases hn
end
end MU

namespace MU
open PySem PySem.Spec L2
section
variable {K : PySem.W.Frag} {w : World} {δ δ' : List Slot} {te ta tb : TE} {tt : TT} {t u : TS} {tz : TA} {d x y : PD} {ds es xs ys : List PD} {nx nx' mid bk ct : PN} {rt : List Slot → Ret → Prop} {g : TG} {wi : TI}
/-! enumerate -/
def enumD (ds : List PD) : List PD := ds.zipIdx.map fun p => .tuple [.int (p.2 : Nat), p.1]
theorem enum_len (ds : List PD) : (enumD ds).length = ds.length := by unfold enumD; rw [List.length_map, List.length_zipIdx]
theorem enum_at {i : Nat} (h : (enumD ds)[i]? = some x) : ∃ d, ds[i]? = some d ∧ x = .tuple [.int (i : Nat), d] := by
  unfold enumD at h
  rw [List.getElem?_map, List.getElem?_zipIdx] at h
  cases e : ds[i]? with
  | none => rw [e] at h; cases h
  | some d =>
    rw [e] at h
    refine ⟨d, rfl, ?_⟩
    have := (Option.some.inj h).symm
    rw [this, Nat.zero_add]
theorem yl_enumT {F : Hp} {a : Addr} {vs : List V} (hs : SqT K F a vs) (hd : DpAll K F vs ds) : Yl K (Iet K a) F (enumD ds) := fun F' H' f h i =>
  ⟨fun e he => by
    obtain ⟨d, e1, rfl⟩ := enum_at he
    obtain ⟨v, g1, g2⟩ := da_get hd e1
    have sq := sqt_up h (sqt_up f hs)
    refine ⟨⟨vs, v, sq, g1⟩, fun z H'' ⟨T, z1, o, ez, hT, ho, eH, same⟩ => ?_⟩
    have := same vs sq
    rw [g1] at this
    cases this
    subst ez eH
    exact ⟨upd F' T (.frz o (.tup [.int (i : Nat), v])), .frz h hT (ok_tup ho), .tup (.inl (.inr ⟨_, upd_same⟩)) (.cons (.int _) (.cons (dp_up (same_new (h.free hT)) _ _ (dp_up f _ _ g2)) .nil))⟩,
   fun l => ⟨vs, sqt_up h (sqt_up f hs), by rw [da_len hd]; rw [enum_len] at l; exact l⟩⟩
theorem it_enumT (h : EvD K w te δ (.tuple ds)) : ItD K w (iEnT K (tCons te tNil)) δ (enumD ds) := fun _ _ _ F H σ S R q =>
  h _ _ _ _ _ _ S _ fun v F2 H2 s e => by
    obtain ⟨a, vs, rfl, hs, hd⟩ := dp_tuple e
    exact ⟨a, vs, rfl, sqt_up s.fh hs, q _ F2 H2 s (yl_enumT hs hd)⟩
/-! sets of ints and None -/
def nkOf : PD → Option (Option Key)
  | .none => some none
  | .int i => some (some (.inl i))
  | .str x => some (some (.inr x))
  | _ => none
theorem nk_v {H : Hp} {v : V} {k : Option Key} (h : Dp K H v d) (e : nkOf d = some k) : v = nkV k := by
  cases h <;> first | (cases e; rfl) | cases e
theorem ok_setno {w : World} {p : Addr} {S : Option Key → Bool} {n : Nat} : OkO (SetNo w p S n) := ⟨fun _ z => (by cases z), fun _ _ z => (by cases z)⟩
abbrev setN (w : World) (S : Option Key → Bool) (n : Nat) : Slot := .ob fun p => SetNo w p S n
theorem Sig.obj {F0 H0 F H : Hp} {m : Addr → Prop} {σ : L2.St} {i : Nat} {f : Addr → HO} (S : Sig K w F0 H0 m F H σ δ) (hi : δ[i]? = some (.ob f)) : ∃ p, σ[i]? = some (some (.ref p)) ∧ F p = none ∧ H p = some (f p) := by
  obtain ⟨p, e, _⟩ := S.ref hi rfl
  obtain ⟨p', h1, h2, h3⟩ := S.ok i _ hi
  rw [e] at h1
  cases h1
  exact ⟨p, e, h2, h3⟩
theorem run_set0N {i : Nat} (n : nx (δ.set i (setN w (fun _ => false) 0))) : Run K w (tAsg (tCB (rSet0N w) tNil) (gName i)) δ nx rt bk ct := fun F0 H0 m F H σ S D a _ _ _ => ⟨rfl, fun p hp => by
  refine a _ F _ _ n (Same.refl F) ((S.up (.mk1 S.fh hp ok_setno)).setM i ⟨p, rfl, S.fh.free hp, upd_same⟩ rfl (new_loc S hp) fun j sj _ ej mj eq => ?_)
  obtain ⟨p', e1, _⟩ := S.ref ej mj
  rw [e1] at eq
  cases eq
  have q := S.ok j sj ej
  rw [e1] at q
  cases sj with
  | emp => cases mj
  | d x => cases mj
  | own b xs => obtain ⟨_, _, h1, _, h3, _⟩ := q; cases h1; rw [hp] at h3; cases h3
  | gen b' n => obtain ⟨_, h1, _, _, _, _, h3, _⟩ := q; cases h1; rw [hp] at h3; cases h3
  | set S' n => obtain ⟨_, h1, _, h3⟩ := q; cases h1; rw [hp] at h3; cases h3
  | ob o9 => obtain ⟨_, h1, _, h3⟩ := q; cases h1; rw [hp] at h3; cases h3⟩
theorem run_saddN {i : Nat} {k : Option Key} {S' : Option Key → Bool} {n : Nat} (hi : δ[i]? = some (setN w S' n)) (h : EvD K w te δ d) (hk : nkOf d = some k) (hn : n < 4000) (c : nx (δ.set i (setN w (fun j => S' j || decide (j = k)) (if S' k = true then n else n + 1)))) :
    Run K w (tDrop (tSAddN w (tVar i) (tCons te tNil))) δ nx rt bk ct := fun _ _ _ F H σ S D a _ _ _ => by
  obtain ⟨p, e1, f1, h1⟩ := S.obj hi
  refine ⟨_, e1, ⟨p, S', n, rfl, h1⟩, h _ _ _ _ _ _ S _ fun v F2 H2 s e => ?_⟩
  have f2 : F2 p = none := s.nj p f1 (by rw [h1]; exact fun z => nomatch z)
  have h2 : H2 p = some (SetNo w p S' n) := s.hs _ _ h1
  refine ⟨p, k, S', n, rfl, by rw [nk_v e hk], h2, Nat.lt_of_lt_of_le (Nat.succ_lt_succ hn) (by decide), ?_⟩
  exact a _ F2 _ σ c s.ff ((S.up s).chg hi rfl e1 f2 (by rw [h2]; exact fun z => nomatch z) ⟨p, rfl, f2, upd_same⟩ rfl rfl ok_setno)
theorem ev_sinN {i : Nat} {k : Option Key} {S' : Option Key → Bool} {n : Nat} (hi : δ[i]? = some (setN w S' n)) (h : RdD K w te δ d) (hk : nkOf d = some k) : EvD K w (tOp (rSInN w false) te (tVar i)) δ (.bool (S' k)) := fun _ _ _ F H σ S Q q =>
  h _ _ _ _ _ _ S _ fun v F2 H2 s e => by
    obtain ⟨p, e1, f1, h1⟩ := (S.up s).obj hi
    exact ⟨_, e1, k, p, S', n, nk_v e hk, rfl, h1, q _ F2 H2 s (.bl _)⟩
theorem only_nod {H : Hp} (h : Only H) : NoD H := fun a => by
  rcases h a with z | ⟨o, xs, z⟩
  · exact ⟨fun xs e => (by rw [z] at e; cases e), fun o xs e => (by rw [z] at e; cases e)⟩
  · exact ⟨fun xs e => (by rw [z] at e; cases e), fun o xs e => (by rw [z] at e; cases e)⟩
/-! t.index(x), xs.index(x) -/
/-- the written part's own tuples have no dict -/
def KT (K : PySem.W.Frag) : Prop := ∀ a o, K.lookup a = some o → o.cls = .type "tuple" → o.dict = none
def ktB (K : PySem.W.Frag) : Bool := K.all fun p => !(p.2.cls == .type "tuple") || p.2.dict.isNone
theorem kt_of : ∀ {K : PySem.W.Frag}, ktB K = true → KT K
  | [], _ => fun a o e => nomatch e
  | p :: r, h => fun a o e c => by
    unfold ktB at h
    rw [List.all_cons,
          Bool.and_eq_true] at h
    obtain ⟨b, x⟩ := p
    simp only [List.lookup] at e
    split at e
    · cases e
      have h1 := h.1
      simp only [c] at h1
      cases q : o.dict with
      | none => rfl
      | some d =>
        rw [q] at h1
        have e1 : (Value.type "tuple" == Value.type "tuple") = true := by decide +kernel
        rw [e1] at h1
        cases h1
    · exact kt_of (K := r) h.2 a o e c
def tTIndex (K : PySem.W.Frag) (to : TE) (tz : TA) : TE := fun σ H Q => to σ H fun x H1 => (∃ a, x = V.ref a ∧ ((∃ o xs, H1 a = some (.frz o (.tup xs)) ∧ o.dict = none) ∨ ∃ o, K.lookup a = some o ∧ o.cls = .type "tuple" ∧ o.dict = none)) ∧ tz σ H1 fun xs H2 => rTIndex K x xs H2 Q
theorem pe_tindex {X : Cx} {K : PySem.W.Frag} {o e : Expr} {to : TE} {tz : TA} {apos cpos : Pos} (ho : PE X o to) (ha : PA X [e] tz) (eK : X.K = K := by rfl)
    (hbase : attributeBase o "index" X.env (eval o X.env) = eval o X.env := by rfl)
    (hfew : ((backTo cpos (starEach [e] X.env)).all (fun x => !x.1) && (backToKw cpos (keywordEach [] X.env)).all (fun x => x.1.isSome) && decide ([e].length + ([] : List Keyword).length + (if ([] : List Keyword).isEmpty then 0 else 1) < 30)) = true := by rfl)
    (hline : (apos.endLine == cpos.line) = true := by rfl) (hs : starEach [e] X.env = (false, eval e X.env) :: starEach [] X.env := by rfl) (hplain : (backTo cpos (starEach ([] : List Expr) X.env)).any (·.1) = false := by rfl) :
    PE X (.Call (.Attribute o "index" apos) [e] [] cpos) (tTIndex K to tz) := by
  subst eK
  refine ⟨fun pins s σ H Q I h => ?_⟩
  refine wpAny_Call_method_late hbase hfew hline rfl (thn (ho.run pins s σ H _ I h) fun v s1 ⟨x, H1, I1, r1, ⟨a, ex, ty⟩, q1⟩ => ?_)
  subst ex
  have got : ∃ ob, s1.heap.get? a = some ob ∧ ob.cls = .type "tuple" ∧ ob.dict = none := by
    rcases ty with ⟨ob, xs, ea, ed⟩ | ⟨ob, ek, ec, ed⟩
    · obtain ⟨e1, _, its, _, ob2, e2, ec, _⟩ := I1.hok a _ ea
      rw [e1] at e2
      cases e2
      exact ⟨ob, e1, ec, ed⟩
    · exact ⟨ob, I1.kIn _ _ ek, ec, ed⟩
  obtain ⟨ob, e1, ec, ed⟩ := got
  cases r1
  refine ⟨"tuple", "tuple.index", PySem.F.plainAttrs_tuple, PySem.F.slot_tuple_index, PySem.F.type_tuple_index, ⟨ob, e1, ec⟩, fun b eb => ⟨ob, by cases eb; exact e1, ed⟩, ?_⟩
  have hA := ha.run cpos
        pins s1 σ H1 _ I1 q1
  rw [hs] at hA ⊢
  refine Calls.callWith_builtin (by show (false || (backTo cpos (starEach ([] : List Expr) X.env)).any (·.1)) = false; rw [hplain] <;> rfl) (Calls.evalArgs_plain (thn hA fun us s2 ⟨vs, H2, I2, r2, q2⟩ => mt_tindex pins s2 σ H2 (.ref a) vs (.ref a) us Q I2 rfl r2 q2))
theorem first_v {H : Hp} {vs : List V} {u : V} (hd : DpAll K H vs ds) (hu : Dp K H u y) (fy : flatD y = true) (fd : ds.all flatD = true) {j : Nat} {z : PD} (hz : ds[j]? = some z) (ez : PyData.eqv z y = true) (no : ∀ (m : Nat) (z' : PD), m < j → ds[m]? = some z' → PyData.eqv z' y = false) :
    ∃ v, vs[j]? = some v ∧ eqV v u = true ∧ ∀ (m : Nat) (v' : V), m < j → vs[m]? = some v' → eqV v' u = false := by
  have fl : ∀ {k : Nat} {d : PD}, ds[k]? = some d → flatD d = true := fun e => List.all_eq_true.mp fd _ (List.mem_of_getElem? e)
  obtain ⟨v, g1, g2⟩ := da_get hd hz
  refine ⟨v, g1, by rw [eq_v g2 hu (fl hz) fy]; exact ez, fun m v' l e => ?_⟩
  obtain ⟨d', e1, e2⟩ := da_getV hd e
  rw [eq_v e2 hu (fl e1) fy]
  exact no m d' l e1
theorem ev_tindex {j : Nat} {z : PD} (kt : KT K) (ha : EvD K w ta δ (.tuple ds)) (hb : RdD K w tb δ y) (fy : flatD y = true) (fd : ds.all flatD = true) (hz : ds[j]? = some z) (ez : PyData.eqv z y = true) (no : ∀ (m : Nat) (z' : PD), m < j → ds[m]? = some z' → PyData.eqv z' y = false) :
    EvD K w (tTIndex K ta (tCons tb tNil)) δ (.int (j : Nat)) := fun _ _ _ F H σ S Q q =>
  ha _ _ _ _ _ _ S _ fun v F2 H2 s e => by
    obtain ⟨a, vs, rfl, hs, hd⟩ := dp_tuple e
    have n2 := (S.up s).fz.n a
    have s2 := sqt_up s.fh hs
    refine ⟨?_, hb _ _ _ _ _ _ (S.up s) _ fun u F3 H3 s2 e2 => ?_⟩
    · rcases s2 with (z | ⟨o, z⟩) | ⟨o, its, n, z, c, _⟩
      · exact absurd z (n2.1 vs)
      · exact ⟨a, rfl, .inl ⟨o, vs, z, n2.2 o vs z⟩⟩
      · exact ⟨a, rfl, .inr ⟨o, z, c, kt a o z c⟩⟩
    · have d3 := da_up (s.fh.trans s2.hs) _ _ hd
      obtain ⟨v, g1, g2, g3⟩ := first_v d3 e2 fy fd hz ez no
      exact ⟨a, vs, u, j, v, rfl, rfl, sqt_up (s.fh.trans s2.hs) hs, by rw [flat_v e2]; exact fy, flats_v d3 fd, g1, g2, g3, q _ F3 H3 (s.trans s2) (.int _)⟩
theorem ev_lindex {j : Nat} {z : PD} (ha : RdD K w ta δ (.list ds)) (hb : RdD K w tb δ y) (fy : flatD y = true) (fd : ds.all flatD = true) (hz : ds[j]? = some z) (ez : PyData.eqv z y = true) (no : ∀ (m : Nat) (z' : PD), m < j → ds[m]? = some z' → PyData.eqv z' y = false) :
    EvD K w (tBM K "list" (rIndex K) ta (tCons tb tNil)) δ (.int (j : Nat)) := fun _ _ _ F H σ S Q q =>
  ha _ _ _ _ _ _ S _ fun v F2 H2 s e => by
    obtain ⟨a, vs, rfl, hs, hd⟩ := dp_list e
    refine ⟨.inl ⟨rfl, vs, hs⟩, hb _ _ _ _ _ _ (S.up s) _ fun u F3 H3 s2 e2 => ?_⟩
    have d3 := da_up s2.hs _ _ hd
    obtain ⟨v, g1, g2, g3⟩ := first_v d3 e2 fy fd hz ez no
    exact ⟨a, vs, u, j, v, rfl, rfl, s2.hs.seq hs, by rw [flat_v e2]; exact fy, flats_v d3 fd, g1, g2, g3, q _ F3 H3 (s.trans s2) (.int _)⟩
/-! repeated -/
theorem ev_repT {k : Nat} (ha : EvD K w ta δ (.tuple xs)) (hb : RdD K w tb δ (.int k)) (ne : xs ≠ []) (h1 : 1 ≤ k) (h2 : k ≤ 1000) (hl : xs.length ≤ 1000) : EvD K w (tOp (rRepT1 K) ta tb) δ (.tuple (List.replicate k xs).flatten) := fun _ _ _ F H _ S Q q =>
  ha _ _ _ _ _ _ S _ fun v F2 H2 s e => hb _ _ _ _ _ _ (S.up s) _ fun u F3 H3 s2 e2 => by
    obtain ⟨a, vs, rfl, hs, hd⟩ := dp_tuple (dp_up s2.ff _ _ e)
    have len := da_len hd
    refine ⟨a, k, vs, rfl, dp_int e2, sqt_up s2.fh hs, fun z => ne (by subst z; cases hd; rfl), by omega, by omega, by omega, fun z => ?_, fun _ p hp o ho => ?_⟩
    · have z1 : k = 1 := by omega
      subst z1
      have eq : (List.replicate 1 xs).flatten = xs := by simp
      rw [eq] at q
      exact q _ F3 H3 (s.trans s2) (.tup hs hd)
    · have rep : ∀ n : Nat, DpAll K F3 (List.replicate n vs).flatten (List.replicate n xs).flatten := fun n => by
        induction n with
        | zero => exact .nil
        | succ n ih => rw [List.replicate_succ, List.replicate_succ, List.flatten_cons, List.flatten_cons]; exact da_app hd ih
      rw [Int.toNat_natCast]
      exact q (.ref p) (upd F3 p (.frz o _)) _ ((s.trans s2).trans (.frz s2.fh hp (ok_tup ho))) (.tup (.inl (.inr ⟨_, upd_same⟩)) (da_up (same_new (s2.fh.free hp)) _ _ (rep k)))
theorem eo_rep {k : Nat} (ha : EvO K w ta δ xs) (hb : RdD K w tb δ (.int k)) (h2 : xs.length * k ≤ 100000) (h3 : k ≤ 100000) : EvO K w (tOp rRep ta tb) δ (List.replicate k xs).flatten := fun _ _ _ F H _ S Q q =>
  ha _ _ _ _ _ _ S _ fun p vs F2 H2 s fp np ep hd => hb _ _ _ _ _ _ (S.up s) _ fun u F3 H3 s2 e2 => by
    have d3 := da_up s2.ff _ _ hd
    have rep : ∀ n : Nat, DpAll K F3 (List.replicate n vs).flatten (List.replicate n xs).flatten := fun n => by
      induction n with
      | zero => exact .nil
      | succ n ih => rw [List.replicate_succ, List.replicate_succ, List.flatten_cons, List.flatten_cons]; exact da_app d3 ih
    refine ⟨p, k, vs, rfl, dp_int e2, s2.hs _ _ ep, by omega, by omega, ?_, fun p2 hp2 => ?_⟩
    · rw [Int.toNat_natCast, da_len hd]
      exact small_line h2
    · rw [Int.toNat_natCast]
      exact new_eo (s.trans s2) hp2 (rep k) q
theorem rep_one {k : Nat} {d : PD} : (List.replicate k [d]).flatten = List.replicate k d := by
  induction k with
  | zero => rfl
  | succ k ih => rw [List.replicate_succ, List.flatten_cons, ih, List.replicate_succ, List.singleton_append]
/-! shown -/
theorem ev_repr (ha : RdD K w ta δ d) (h1 : d.showable = true) (h2 : d.hasDict = false) (h3 : d.depth ≤ 60) (h4 : d.shown.length ≤ sizeLine) : EvD K w (tCB (rRepr K) (tCons ta tNil)) δ (.str d.shown) := fun _ _ _ F H _ S Q q =>
  ha _ _ _ _ _ _ S _ fun v F2 H2 s e => ⟨v, d, rfl, e, h1, h2, h3, h4, q _ F2 H2 s (.str _)⟩
/-! drawing -/
variable {i : Nat} {b : Bool} {n n1 n2 : Int} {P P1 P2 : PD → Prop}
theorem eg_catL (h : EvG K w ta δ i b n n1 P1) (h2 : EvG K w tb δ i b n1 n2 P2) (hr : ∀ x y, P1 x → P2 y → ∃ xs ys, x = .list xs ∧ y = .list ys ∧ xs.length + ys.length ≤ 100000 ∧ P (.list (xs ++ ys))) : EvG K w (tOp (rCatL K) ta tb) δ i b n n2 P := fun _ _ _ F H σ g S hi hg Q q =>
  h _ _ _ _ _ _ _ S hi hg _ fun x v F2 H2 p s S2 e => h2 _ _ _ _ _ _ _ S2 hi hg _ fun y u F3 H3 p2 s2 S3 e2 => by
    obtain ⟨xs, ys, rfl, rfl, hl, pd⟩ := hr x y p p2
    obtain ⟨a, vs, rfl, hs, hd⟩ := dp_list (dp_up s2.ff _ _ e)
    obtain ⟨c, us, rfl, hs2, hd2⟩ := dp_list e2
    exact ⟨a, c, vs, us, rfl, rfl, S3.fh.seq hs, S3.fh.seq hs2, by rw [da_len hd, da_len hd2]; exact small_line hl, fun p hp =>
      q _ _ (upd F3 p (.lst (vs ++ us))) _ pd ((s.trans s2).trans (stp_frz S3.fh hp ok_lst)) (S3.up (.frz S3.fh hp ok_lst)) (.lst (.inl (.inl upd_same)) (da_up (same_new (S3.fh.free hp)) _ _ (da_app hd hd2)))⟩
theorem run_setitemG {j : Nat} {b2 : Bool} {tk : TE} (h : EvD K w te (δ.set i (.gen b n)) d) (hj : (δ.set i (.gen b n))[j]? = some (.own b2 ds)) (hj2 : (δ.set i (.gen b n2))[j]? = some (.own b2 ds)) (hk : EvG K w tk δ i b n n2 P) (hi : i < δ.length)
    (c : ∀ z, P z → ∃ (k : Int) (m : Nat), z = .int k ∧ ixN ds.length k = some m ∧ nx ((δ.set i (.gen b n2)).set j (.own b2 (ds.set m d)))) :
    Run K w (tAsg te (gSub (tVar j) tk rSetL)) (δ.set i (.gen b n)) nx rt bk ct := fun _ _ _ F H σ S D a _ _ _ => by
  obtain ⟨g, hg⟩ := S.gadr hi
  refine h _ _ _ _ _ _ S _ fun v F2 H2 s e => ?_
  obtain ⟨p, vs, e1, f1, h1, d1⟩ := (S.up s).own hj
  refine ⟨_, e1, hk _ _ _ _ _ _ _ (S.up s) hi hg _ fun z u F3 H3 pz s2 S3 e2 => ?_⟩
  obtain ⟨k, m, rfl, hm, nn⟩ := c z pz
  obtain ⟨p2, vs2, e3, f2, h2, d2⟩ := S3.own hj2
  rw [e1] at e3
  cases e3
  refine ⟨p, vs2, k, m, rfl, dp_int e2, h2, by rw [da_len d2]; exact hm, ?_⟩
  exact a _ F3 _ σ nn (s.ff.trans s2.ff) (S3.chg hj2 rfl e1 f2 (by rw [h2]; exact fun z => nomatch z) ⟨p, _, rfl, f2, upd_same, da_set (dp_up s2.ff _ _ e) m d2⟩ rfl rfl)
/-- a loop, what is walked being there -/
theorem for_core {J : It} {F0 H0 F H : Hp} {m : Addr → Prop} {σ : L2.St} {D : Ends} (S : Sig K w F0 H0 m F H σ δ) (Y : Yl K J F ds) (Inv : Nat → PN) (h0 : Inv 0 δ)
    (hs : ∀ (k : Nat) (x : PD) (δ' : List Slot), ds[k]? = some x → Inv k δ' → ∃ is δ1, TgD K w g is δ' x δ1 ∧ Run K w t δ1 (Inv (k + 1)) rt nx (Inv (k + 1)))
    (he : ∀ δ', Inv ds.length δ' → nx δ')
    (a : ∀ δ' F2 H2 σ2, nx δ' → Same F F2 → Sig K w F0 H0 m F2 H2 σ2 δ' → D.nx σ2 H2) (r : ∀ δ' r v F2 H2 σ2, rt δ' r → Same F F2 → Sig K w F0 H0 m F2 H2 σ2 δ' → RetOk K H0 F2 H2 v r → D.rt v H2) :
    ∃ W : Nat → Nat → L2.St → Hp → Prop,
          (∃ m, W 0 m σ H) ∧ ∀ i m σ H, W i m σ H →
      (J.stop i H ∧ D.nx σ H) ∨ (J.go i H ∧ ∃ N : L2.St → Hp → Prop, (∀ σ' H', N σ' H' → ∃ m', m' < m ∧ W (i + 1) m' σ' H') ∧ ∀ x H', J.yld i H x H' → g x σ H' fun σ2 H2 => t { D with nx := N, ct := N, bk := D.nx } σ2 H2) := by
  refine ⟨fun i n σ' H' => n = ds.length - i ∧ i ≤ ds.length ∧ ∃ δ' F', Inv i δ' ∧ Same F F' ∧ Sig K w F0 H0 m F' H' σ' δ', ⟨ds.length, by omega, Nat.zero_le _, δ, F, h0, Same.refl F, S⟩, ?_⟩
  rintro i n σ' H' ⟨rfl, hi', δ', F', iv, f, S'⟩
  have y := Y F' H' f S'.fh i
  by_cases q : i < ds.length
  · refine .inr ?_
    have ex : ds[i]? = some ds[i] := List.getElem?_eq_getElem q
    obtain ⟨g1, g2⟩ := y.1 _ ex
    refine ⟨g1, fun σ2 H3 => ∃ δ2 F3, Inv (i + 1) δ2 ∧ Same F F3 ∧ Sig K w F0 H0 m F3 H3 σ2 δ2, fun σ2 H3 ⟨δ2, F3, b1, b2, b3⟩ => ⟨ds.length - (i + 1), by omega, rfl, q, δ2, F3, b1, b2, b3⟩, fun x H3 yy => ?_⟩
    obtain ⟨F3, s3, e3⟩ := g2 x H3 yy
    obtain ⟨is, δ1, tg, rn⟩ := hs i _ δ' ex iv
    refine tg _ _ _ _ _ _ _ (S'.up s3) e3 _ fun σ2 S2 _ _ => ?_
    exact rn _ _ _ _ _ _ S2 _ (fun δ2 F4 H4 σ3 p f4 S4 => ⟨δ2, F4, p, (f.trans s3.ff).trans f4, S4⟩) (fun δ2 z v F4 H4 σ3 p f4 S4 R => r δ2 z v F4 H4 σ3 p ((f.trans s3.ff).trans f4) S4 R)
      (fun δ2 F4 H4 σ3 p f4 S4 => a δ2 F4 H4 σ3 p ((f.trans s3.ff).trans f4) S4) (fun δ2 F4 H4 σ3 p f4 S4 => ⟨δ2, F4, p, (f.trans s3.ff).trans f4, S4⟩)
  · refine .inl ⟨y.2 (by omega), a δ' F' H' σ' (he δ' ?_) f S'⟩
    have z : i = ds.length := by omega
    rw [← z]
    exact iv
/-- for over a list that drawing makes -/
theorem run_forG (h : EvG K w te δ i b n n2 P) (hi : i < δ.length) (c : ∀ z, P z → ∃ ds, z = .list ds ∧ ∃ Inv : Nat → PN, Inv 0 (δ.set i (.gen b n2)) ∧
    (∀ (k : Nat) (x : PD) (δ' : List Slot), ds[k]? = some x → Inv k δ' → ∃ is δ1, TgD K w g is δ' x δ1 ∧ Run K w t δ1 (Inv (k + 1)) rt nx (Inv (k + 1))) ∧ (∀ δ', Inv ds.length δ' → nx δ')) :
    Run K w (tFor (iList K te) g t) (δ.set i (.gen b n)) nx rt bk ct := fun F0 H0 m F H σ S D a r c1 c2 => by
  obtain ⟨gg, hg⟩ := S.gadr hi
  refine h _ _ _ _ _ _ _ S hi hg _ fun z v F2 H2 pz s S2 e => ?_
  obtain ⟨ds, rfl, Inv, i0, hs, he⟩ := c z pz
  obtain ⟨ad, vs, rfl, hq, hd⟩ := dp_list e
  exact ⟨ad, rfl, ⟨vs, S2.fh.seq hq⟩, for_core S2 (yl_list hq hd) Inv i0 hs he (fun δ' F' H' σ' z f S' => a δ' F' H' σ' z (s.ff.trans f) S') (fun δ' z v F' H' σ' z2 f S' R => r δ' z v F' H' σ' z2 (s.ff.trans f) S' R)⟩
end
end MU
namespace MU
open PySem PySem.Spec L2
section
variable {K : PySem.W.Frag} {w : World} {δ : List Slot} {ta tb : TE} {d x : PD} {ds : List PD}
/-- xs[i], xs a list or a tuple -/
theorem ev_ix2 {i : Int} (ha : EvD K w ta δ x) (hb : RdD K w tb δ (.int i)) (e : atI ds i = some d) (es : seqOf x = some ds := by rfl) : EvD K w (tOp (rIx K) ta tb) δ d := fun _ _ _ F H _ S Q q =>
  ha _ _ _ _ _ _ S _ fun v F2 H2 s ev => hb _ _ _ _ _ _ (S.up s) _ fun u F3 H3 s2 e2 => by
    obtain ⟨a, xs, rfl, hs, hd⟩ := dp_seq (dp_up s2.ff _ _ ev) es
    obtain ⟨v', g1, g2⟩ := at_da hd e
    rcases hs with hs | hs
    · exact .inl ⟨a, xs, i, v', rfl, dp_int e2, s2.fh.seq hs, g1, q v' F3 H3 (s.trans s2) g2⟩
    · exact .inr (.inl ⟨a, xs, i, v', rfl, dp_int e2, sqt_up s2.fh hs, g1, q v' F3 H3 (s.trans s2) g2⟩)
end
end MU
namespace MU
open PySem PySem.Spec L2
theorem k_ix2 {X : Cx} {K : PySem.W.Frag} (e : X.K = K := by rfl) : IxR X (rIx K) := by subst e; exact ix_seq
end MU
namespace MU
open PySem PySem.Spec L2
theorem EvGA.imp {K : PySem.W.Frag} {w : World} {δ : List Slot} {tz : TA} {i : Nat} {b : Bool} {n n2 : Int} {P P' : List PD → Prop} (h : EvGA K w tz δ i b n n2 P) (p : ∀ d, P d → P' d) : EvGA K w tz δ i b n n2 P' := fun _ _ _ _ _ _ _ S hi hg Q q => h _ _ _ _ _ _ _ S hi hg Q fun d v F2 H2 a => q d v F2 H2 (p d a)
end MU
namespace MU
open PySem PySem.Spec L2
section
variable {K : PySem.W.Frag} {w : World} {δ : List Slot} {tz : TA} {i : Nat} {b : Bool} {n n1 : Int} {P : PD → Prop} {PA : List PD → Prop}
theorem eg_callX {l : Nat} {k : Int} {R : List PD → (PD → Prop) → Prop} {E : XK} (h : EvGA K w tz δ i b n n1 PA) (hn : n1 + k ≤ gmax) (r : ∀ ds, PA ds → ds.length + 1 = l ∧ ∃ P0, R ds P0 ∧ ∀ d, P0 d → P d) : EvG K w (tCall (spG K l k R) [] E (tCons (tVar i) tz)) δ i b n (n1 + k) P := fun _ _ _ F H σ g S hi hg Q q => by
  refine ⟨_, hg, h _ _ _ _ _ _ _ S hi hg _ fun ds vs F2 H2 p s S2 e => ?_⟩
  have e0 : (δ.set i (.gen b n1))[i]? = some (.gen b n1) := List.getElem?_set_self hi
  obtain ⟨p', e1, f1, G⟩ := S2.ok i _ e0
  rw [hg] at e1
  cases e1
  obtain ⟨r1, P0, r2, r3⟩ := r ds p
  refine ⟨F2, g, n1, vs, ds, P0, by rw [List.append_nil], S2.fz, f1, G, hn, e, r1, r2, fun d v F3 H3 pd s3 G3 e3 => ?_⟩
  exact q d v F3 H3 (r3 d pd) (s.trans s3) (S2.turn hi hg s3 G3) e3
end
end MU

namespace MU
open PySem PySem.Spec L2
/-! ## charts -/
/-- t tells for post k + 1 the post directly above -/
def Chart (t : List Nat) : Prop := ∀ k p : Nat, t[k]? = some p → p ≤ k
def chartD (t : List Nat) : PD := .tuple (.none :: t.map fun n : Nat => .int n)
abbrev chartL (t : List Nat) : List PD := .none :: t.map fun n : Nat => .int n
theorem chart_len (t : List Nat) : (chartL t).length = t.length + 1 := by simp
theorem at_nat {xs : List PD} {j : Nat} {d : PD} (h : xs[j]? = some d) : atI xs (j : Int) = some d := by
  unfold atI ixN
  have l := (List.getElem?_eq_some_iff.mp h).1
  rw [if_pos (by omega),
        if_pos (by omega)]
  show xs[(j : Int).toNat]? = some d
  rw [Int.toNat_natCast]
  exact h
theorem ixN_nat {n j : Nat} (h : j < n) : ixN n (j : Int) = some j := by
  unfold ixN
  rw [if_pos (by omega), if_pos (by omega), Int.toNat_natCast]
theorem at_last {xs : List PD} {d : PD} : atI (xs ++ [d]) (-1) = some d := by
  unfold atI ixN
  rw [List.length_append, List.length_singleton, if_neg (by omega), if_pos (by omega)]
  show (xs ++ [d])[((-1 : Int) + (xs.length + 1 : Nat)).toNat]? = some d
  have e : ((-1 : Int) + (xs.length + 1 : Nat)).toNat = xs.length := by omega
  rw [e]
  simp
theorem chart_at0 (t : List Nat) : (chartL t)[0]? = some .none := rfl
theorem chart_at {t : List Nat} {k p : Nat} (h : t[k]? = some p) : (chartL t)[k + 1]? = some (.int p) := by
  show (t.map fun n : Nat => PyData.int n)[k]? = some (.int p)
  rw [List.getElem?_map, h]
  rfl
theorem chart_has {t : List Nat} {j : Nat} (h : 0 < j) (l : j < t.length + 1) : ∃ p, t[j - 1]? = some p := ⟨_, List.getElem?_eq_getElem (by omega)⟩
/-- the posts from the head down to j -/
def way (t : List Nat) (j : Nat) : List Nat :=
  if h : 0 < j ∧ t.getD (j - 1) 0 < j then way t (t.getD (j - 1) 0) ++ [j] else [j]
termination_by j
decreasing_by exact h.2
theorem way_zero (t : List Nat) : way t 0 = [0] := by
  rw [way, dif_neg (fun z => Nat.lt_irrefl 0 z.1)]
theorem way_succ {t : List Nat} {j p : Nat} (h : t[j]? = some p) (hp : p ≤ j) : way t (j + 1) = way t p ++ [j + 1] := by
  have e : t.getD (j + 1 - 1) 0 = p := by rw [Nat.add_sub_cancel, List.getD_eq_getElem?_getD, h]; rfl
  rw [way, dif_pos (by rw [e]; omega), e]
theorem way_step {t : List Nat} (c : Chart t) {j p : Nat} (h0 : 0 < j) (h : t[j - 1]? = some p) : way t j = way t p ++ [j] ∧ p < j := by
  have q := c _ _ h
  obtain ⟨k, rfl⟩ : ∃ k, j = k + 1 := ⟨j - 1, by omega⟩
  rw [Nat.add_sub_cancel] at h q
  exact ⟨way_succ h q, by omega⟩
theorem way_le {t : List Nat} (c : Chart t) : ∀ (j : Nat), j < t.length + 1 → ∀ x ∈ way t j, x ≤ j := by
  intro j
  induction j using Nat.strongRecOn with
  | ind j ih =>
    intro l x hx
    by_cases h0 : 0 < j
    · obtain ⟨p, hp⟩ := chart_has h0 l
      obtain ⟨e, lt⟩ := way_step c h0 hp
      rw [e] at hx
      rcases List.mem_append.mp hx with q | q
      · exact Nat.le_of_lt (Nat.lt_of_le_of_lt (ih p lt (by omega) x q) lt)
      · rw [List.mem_singleton.mp q]; exact Nat.le_refl _
    · have : j = 0 := by omega
      subst this
      rw [way_zero] at hx
      rw [List.mem_singleton.mp hx]
      exact Nat.le_refl _
theorem way_self {t : List Nat} (j : Nat) : j ∈ way t j := by
  rw [way]
  split
  · exact List.mem_append_right _ (List.mem_singleton.mpr rfl)
  · exact List.mem_singleton.mpr rfl
theorem way_len {t : List Nat} (c : Chart t) : ∀ (j : Nat), j < t.length + 1 → (way t j).length ≤ j + 1 := by
  intro j
  induction j using Nat.strongRecOn with
  | ind j ih =>
    intro l
    by_cases h0 : 0 < j
    · obtain ⟨p, hp⟩ := chart_has h0 l
      obtain ⟨e, lt⟩ := way_step c h0 hp
      rw [e, List.length_append, List.length_singleton]
      have := ih p lt (by omega)
      omega
    · have : j = 0 := by omega
      subst this
      rw [way_zero]
      exact Nat.le_refl _
/-- the posts below q -/
def belowL (t : List Nat) (q : Nat) : List Nat := (List.range (t.length + 1)).filter fun j => decide (q ∈ way t j)
theorem below_mem {t : List Nat} {q j : Nat} : j ∈ belowL t q ↔ j < t.length + 1 ∧ q ∈ way t j := by
  unfold belowL
  rw [List.mem_filter, List.mem_range, decide_eq_true_eq]
def intsD (l : List Nat) : List PD := l.map fun n : Nat => .int n
theorem intsD_eq (l : List Nat) : intsD l = (l.map fun n : Nat => (n : Int)).map PyData.int := by unfold intsD; rw [List.map_map]; rfl
theorem cast_lt {l : List Nat} (h : l.Pairwise (· < ·)) : (l.map fun n : Nat => (n : Int)).Pairwise (· < ·) := List.pairwise_map.mpr (h.imp fun {a b} h => by omega)
theorem below_sorted (t : List Nat) (q : Nat) : (belowL t q).Pairwise (· < ·) := List.Pairwise.filter _ List.pairwise_lt_range
/-- the last post that both ways have -/
def comL (t : List Nat) (a b : Nat) : List Nat := (way t a).filter fun x => decide (x ∈ way t b)
theorem com_self (t : List Nat) (a : Nat) : comL t a a = way t a := List.filter_eq_self.mpr fun x h => decide_eq_true h
theorem com_left {t : List Nat} (c : Chart t) {a b p : Nat} (h : b < a) (la : a < t.length + 1) (hp : t[a - 1]? = some p) : comL t a b = comL t p b := by
  obtain ⟨e, _⟩ := way_step c (by omega) hp
  unfold comL
  rw [e, List.filter_append, List.filter_cons, if_neg, List.filter_nil, List.append_nil]
  intro z
  have := way_le c b (by omega) a (of_decide_eq_true z)
  omega
theorem com_right {t : List Nat} (c : Chart t) {a b p : Nat} (h : a < b) (lb : b < t.length + 1) (hp : t[b - 1]? = some p) : comL t a b = comL t a p := by
  obtain ⟨e, _⟩ := way_step c (by omega) hp
  unfold comL
  refine List.filter_congr fun x hx => ?_
  have := way_le c a (by omega) x hx
  rw [e]
  refine decide_eq_decide.mpr ⟨fun z => ?_, fun z => List.mem_append_left _ z⟩
  rcases List.mem_append.mp z with q | q
  · exact q
  · rw [List.mem_singleton] at q
    omega
theorem way_last (t : List Nat) (a : Nat) : (way t a).getLast? = some a := by
  rw [way]
  split
  · rw [List.getLast?_append]
    rfl
  · rfl
theorem way_sorted {t : List Nat} (c : Chart t) : ∀ (j : Nat), j < t.length + 1 → (way t j).Pairwise (· < ·) := by
  intro j
  induction j using Nat.strongRecOn with
  | ind j ih =>
    intro l
    by_cases h0 : 0 < j
    · obtain ⟨p, hp⟩ := chart_has h0 l
      obtain ⟨e, lt⟩ := way_step c h0 hp
      rw [e]
      refine List.pairwise_append.mpr ⟨ih p lt (by omega), List.pairwise_singleton _ _, fun x hx y hy => ?_⟩
      rw [List.mem_singleton] at hy
      subst hy
      exact Nat.lt_of_le_of_lt (way_le c p (by omega) x hx) lt
    · have : j = 0 := by omega
      subst this
      rw [way_zero]
      exact List.pairwise_singleton _ _
theorem way_head {t : List Nat} (c : Chart t) : ∀ (j : Nat), j < t.length + 1 → 0 ∈ way t j := by
  intro j
  induction j using Nat.strongRecOn with
  | ind j ih =>
    intro l
    by_cases h0 : 0 < j
    · obtain ⟨p, hp⟩ := chart_has h0 l
      obtain ⟨e, lt⟩ := way_step c h0 hp
      rw [e]
      exact List.mem_append_left _ (ih p lt (by omega))
    · have : j = 0 := by omega
      subst this
      exact way_self 0
theorem com_symm {t : List Nat} (c : Chart t) {a b : Nat} (la : a < t.length + 1) (lb : b < t.length + 1) : comL t b a = comL t a b := by
  have m : ∀ a b x, x ∈ comL t a b ↔ x ∈ way t a ∧ x ∈ way t b := fun a b x => by unfold comL; rw [List.mem_filter, decide_eq_true_eq]
  have s : ∀ a b, a < t.length + 1 → (comL t a b).Pairwise (· < ·) := fun a b la => List.Pairwise.filter _ (way_sorted c a la)
  refine List.Perm.eq_of_pairwise (le := (· < ·)) (fun a b _ _ h h' => absurd (Nat.lt_trans h h') (Nat.lt_irrefl _)) (s b a lb) (s a b la) ?_
  exact (List.perm_ext_iff_of_nodup ((s b a lb).imp fun h => Nat.ne_of_lt h) ((s a b la).imp fun h => Nat.ne_of_lt h)).mpr fun x => by rw [m, m]; exact And.comm
theorem com_some {t : List Nat} (c : Chart t) {a b : Nat} (la : a < t.length + 1) (lb : b < t.length + 1) : ∃ z, (comL t a b).getLast? = some z ∧ z < t.length + 1 := by
  have h0 : 0 ∈ comL t a b := by unfold comL; rw [List.mem_filter, decide_eq_true_eq]; exact ⟨way_head c a la, way_head c b lb⟩
  cases e : (comL t a b).getLast? with
  | none => rw [List.getLast?_eq_none_iff] at e; rw [e] at h0; cases h0
  | some z =>
    have := List.mem_of_getLast? e
    unfold comL at this
    have := way_le c a la z (List.mem_filter.mp this).1
    exact ⟨z, rfl, by omega⟩
/-! data that may be compared -/
def Shp (n : Nat) (d : PD) : Prop := d.canLay0 = true ∧ d.depth ≤ n
theorem shp_mono {n m : Nat} {d : PD} (h : Shp n d) (l : n ≤ m) : Shp m d := ⟨h.1, Nat.le_trans h.2 l⟩
theorem shp_none {n : Nat} : Shp n .none := ⟨rfl, Nat.zero_le _⟩
theorem shp_int {n : Nat} {i : Int} : Shp n (.int i) := ⟨rfl, Nat.zero_le _⟩
theorem shp_bool {n : Nat} {b : Bool} : Shp n (.bool b) := ⟨rfl, Nat.zero_le _⟩
theorem shp_all {n : Nat} : ∀ {xs : List PD}, (∀ x ∈ xs, Shp n x) → PyData.canLayAll0 xs = true ∧ PyData.depthAll xs ≤ n
  | [], _ => ⟨rfl, Nat.zero_le _⟩
  | x :: xs, h => by
    obtain ⟨a, b⟩ := shp_all (xs := xs) fun y hy => h y (List.mem_cons_of_mem _ hy)
    obtain ⟨c, e⟩ := h x List.mem_cons_self
    refine ⟨?_, Nat.max_le.mpr ⟨e, b⟩⟩
    show (x.canLay0 && PyData.canLayAll0 xs) = true
    rw [c, a]
    rfl
theorem shp_list {n : Nat} {xs : List PD} (h : ∀ x ∈ xs, Shp n x) : Shp (n + 1) (.list xs) := by
  obtain ⟨a, b⟩ := shp_all h
  exact ⟨a, Nat.succ_le_succ b⟩
theorem shp_tuple {n : Nat} {xs : List PD} (h : ∀ x ∈ xs, Shp n x) : Shp (n + 1) (.tuple xs) := by
  obtain ⟨a, b⟩ := shp_all h
  exact ⟨a, Nat.succ_le_succ b⟩
theorem shp_ok {n : Nat} {d : PD} (h : Shp n d) (l : n ≤ 64 := by decide) : SeqAt.shaped d = true := by
  unfold SeqAt.shaped
  rw [h.1, decide_eq_true (Nat.le_trans h.2 l)]
  rfl
theorem shp_ints (l : List Nat) : Shp 1 (.list (intsD l)) := shp_list fun x h => by
  unfold intsD at h
  obtain ⟨n, _, rfl⟩ := List.mem_map.mp h
  exact shp_int
mutual
theorem eqv_self : ∀ {d : PD}, d.canLay0 = true → PyData.eqv d d = true
  | .none, _ => rfl
  | .bool b, _ => by simp [PyData.eqv]
  | .int i, _ => by simp [PyData.eqv]
  | .str x, _ => by simp [PyData.eqv]
  | .list xs, h => by
    show PyData.eqvAll xs xs = true
    exact eqvs_self (xs := xs) h
  | .tuple xs, h => by
    show PyData.eqvAll xs xs = true
    exact eqvs_self (xs := xs) h
  | .dict _, h => by cases h
theorem eqvs_self : ∀ {xs : List PD}, PyData.canLayAll0 xs = true → PyData.eqvAll xs xs = true
  | [], _ => rfl
  | x :: xs, h => by
    have h' : (x.canLay0 && PyData.canLayAll0 xs) = true := h
    rw [Bool.and_eq_true] at h'
    show (PyData.eqv x x && PyData.eqvAll xs xs) = true
    rw [eqv_self h'.1, eqvs_self h'.2]
    rfl
end
theorem eq_same {n : Nat} {d e : PD} (s : Shp n d) (h : d = e) : PyData.eqv d e = true := by
  subst h
  exact eqv_self s.1
theorem any_ints (l : List Nat) (q : Nat) : ((intsD l).any fun z => PyData.eqv z (.int q)) = decide (q ∈ l) := by
  induction l with
  | nil => rfl
  | cons a l ih =>
    unfold intsD at ih ⊢
    rw [List.map_cons, List.any_cons, ih]
    have e : PyData.eqv (.int (a : Int)) (.int (q : Int)) = decide (q = a) := by
      show ((a : Int) == (q : Int)) = decide (q = a)
      by_cases h : q = a
      · subst h; simp
      · rw [decide_eq_false h]
        exact beq_eq_false_iff_ne.mpr fun z => h (by omega)
    rw [e]
    by_cases h : q = a
    · subst h; simp
    · simp [h]
theorem flat_ints (l : List Nat) : (intsD l).all flatD = true := by
  rw [List.all_eq_true]
  intro x h
  unfold intsD at h
  obtain ⟨n, _, rfl⟩ := List.mem_map.mp h
  rfl
theorem sc_ints (l : List Nat) : ∀ d ∈ intsD l, (scV d).isSome = true := fun d h => by
  unfold intsD at h
  obtain ⟨n, _, rfl⟩ := List.mem_map.mp h
  rfl
theorem at_getLast {l : List Nat} {c : Nat} (h : l.getLast? = some c) : atI (intsD l) (-1) = some (.int c) := by
  obtain ⟨ys, rfl⟩ := List.getLast?_eq_some_iff.mp h
  unfold intsD
  rw [List.map_append]
  exact at_last
/-- [j for j in range(n) if p j] -/
theorem filt_range (n : Nat) (p : Nat → Bool) (f : PD → Option PD) (hf : ∀ j : Nat, f (.int (j : Int)) = if p j = true then some (.int (j : Int)) else none) : (rngD 0 n).filterMap f = intsD ((List.range n).filter p) := by
  unfold rngD intsD
  rw [List.filterMap_map]
  induction List.range n with
  | nil => rfl
  | cons a l ih =>
    rw [List.filterMap_cons, List.filter_cons]
    have ef : (f ∘ fun k : Nat => PyData.int (0 + (k : Int))) a = if p a = true then some (.int (a : Int)) else none := by
      show f (.int (0 + (a : Int))) = _
      rw [Int.zero_add, hf]
    rw [ef]
    by_cases h : p a = true
    · rw [if_pos h, if_pos h, List.map_cons, ← ih]
    · rw [if_neg h, if_neg h, ← ih]
theorem filt_ints (l : List Nat) (p : Nat → Bool) (f : PD → Option PD) (hf : ∀ j : Nat, f (.int (j : Int)) = if p j = true then some (.int (j : Int)) else none) : (intsD l).filterMap f = intsD (l.filter p) := by
  unfold intsD
  rw [List.filterMap_map]
  induction l with
  | nil => rfl
  | cons a l ih =>
    rw [List.filterMap_cons, List.filter_cons]
    have ef : (f ∘ fun n : Nat => PyData.int n) a = if p a = true then some (.int (a : Int)) else none := hf a
    rw [ef]
    by_cases h : p a = true
    · rw [if_pos h, if_pos h, List.map_cons, ← ih]
    · rw [if_neg h, if_neg h, ← ih]
/-- the items whose number has p -/
def selD (p : Nat → Bool) : PD → Option PD
  | .int z => if p z.toNat = true then some (.int z) else none
  | _ => none
theorem sel_at (p : Nat → Bool) (j : Nat) : selD p (.int (j : Int)) = if p j = true then some (.int (j : Int)) else none := by
  show (if p ((j : Int)).toNat = true then some (PyData.int (j : Int)) else none) = _
  rw [Int.toNat_natCast]
theorem ints_at {l : List Nat} {k : Nat} {x : PD} (h : (intsD l)[k]? = some x) : ∃ j, l[k]? = some j ∧ x = .int j := by
  unfold intsD at h
  rw [List.getElem?_map] at h
  cases e : l[k]? with
  | none => rw [e] at h; cases h
  | some j => rw [e] at h; cases h; exact ⟨j, rfl, rfl⟩
theorem char_lt (c : Char) : c.toNat < 0x110000 := by
  rcases c.valid with h | ⟨_, h⟩
  · exact Nat.lt_trans h (by decide)
  · exact h
theorem strOk_of (s : String) : PyData.strOk (Str.ofString s) = true := by
  rw [Str.ofString_eq_toList]
  unfold PyData.strOk
  rw [← Array.all_toList,
        List.all_eq_true]
  intro x h
  obtain ⟨c, _, rfl⟩ := List.mem_map.mp h
  exact decide_eq_true (char_lt c)
theorem shp_str {n : Nat} (s : String) : Shp n (.str (Str.ofString s)) := ⟨strOk_of s, Nat.zero_le _⟩
theorem filt_none : ∀ l : List PD, (l.filterMap fun _ => (none : Option PD)) = []
  | [] => rfl
  | _ :: l => by rw [List.filterMap_cons]; exact filt_none l
theorem drawn_chart {es : List PD} {n : Nat} (hl : es.length = n) (h : ∀ j : Nat, j < n → ∃ r : Int, es[j]? = some (.int r) ∧ 0 ≤ r ∧ r < 1 + (j : Int)) : ∃ t, Chart t ∧ t.length = n ∧ es = t.map fun n : Nat => PyData.int n := by
  refine ⟨es.map fun d => match d with | .int r => r.toNat | _ => 0, fun k p e => ?_, by rw [List.length_map, hl], ?_⟩
  · rw [List.getElem?_map] at e
    cases q : es[k]? with
    | none => rw [q] at e; cases e
    | some d =>
      have lk := (List.getElem?_eq_some_iff.mp q).1
      obtain ⟨r, e1, r0, r1⟩ := h k (by omega)
      rw [q] at e1 e
      cases e1
      have e' : r.toNat = p := Option.some.inj e
      omega
  · refine List.ext_getElem? fun k => ?_
    rw [List.map_map, List.getElem?_map]
    by_cases lk : k < es.length
    · obtain ⟨r, e1, r0, r1⟩ := h k (by omega)
      rw [e1]
      show some (PyData.int r) = some (PyData.int ((r.toNat : Nat) : Int))
      rw [Int.toNat_of_nonneg r0]
    · rw [List.getElem?_eq_none (by omega)]
      rfl
/-- what is drawn -/
def hash1 (s i : Int) : Int := (s * 1103515245 + 7919 * i * i + i + 1) % 2147483647
def hash2 (m : Int) : Int := (m * m + 69621) % 2147483629
def hashF (s i : Int) : Int := hash2 (hash1 s i) * 48271 % 2147483587
end MU

namespace MU
open PySem PySem.Spec L2
/-! ## arrangements -/
def cellD : Option Nat → PD
  | none => .none
  | some n => .int n
abbrev rowL (r : List (Option Nat)) : List PD := r.map cellD
def rowD (r : List (Option Nat)) : PD := .tuple (rowL r)
structure Arr (t : List Nat) (r : List (Option Nat)) : Prop where
  len : r.length = t.length + 1
  inj : ∀ i j n : Nat, r[i]? = some (some n) → r[j]? = some (some n) → i = j
  ord : ∀ k p n : Nat, t[k]? = some p → r[k + 1]? = some (some n) → ∃ m, r[p]? = some (some m) ∧ m < n
theorem row_len (r : List (Option Nat)) : (rowL r).length = r.length := List.length_map ..
theorem row_at {r : List (Option Nat)} {k : Nat} {c : Option Nat} (h : r[k]? = some c) : (rowL r)[k]? = some (cellD c) := by rw [List.getElem?_map, h]; rfl
theorem row_of {r : List (Option Nat)} {k : Nat} {d : PD} (h : (rowL r)[k]? = some d) : ∃ c, r[k]? = some c ∧ d = cellD c := by
  rw [List.getElem?_map] at h
  cases e : r[k]? with
  | none => rw [e] at h; cases h
  | some c => rw [e] at h; cases h; exact ⟨c, rfl, rfl⟩
theorem row_has {r : List (Option Nat)} {k : Nat} (h : k < r.length) : ∃ c, r[k]? = some c := ⟨_, List.getElem?_eq_getElem h⟩
theorem cell_non (c : Option Nat) : isNon (cellD c) = !c.isSome := by cases c <;> rfl
theorem cell_flat (c : Option Nat) : flatD (cellD c) = true := by cases c <;> rfl
theorem row_flat (r : List (Option Nat)) : (rowL r).all flatD = true := by
  rw [List.all_map]
  exact List.all_eq_true.mpr fun c _ => cell_flat c
theorem cell_sc (c : Option Nat) : (scV (cellD c)).isSome = true := by cases c <;> rfl
theorem eqv_cell (c : Option Nat) (n : Nat) : PyData.eqv (cellD c) (.int n) = decide (c = some n) := by
  cases c with
  | none =>
    rw [decide_eq_false (fun z => nomatch z)]
    rfl
  | some m =>
    show PyData.eqv (.int (m : Int)) (.int (n : Int)) = _
    have e : PyData.eqv (.int (m : Int)) (.int (n : Int)) = decide ((m : Int) = (n : Int)) := by
      simp only [PyData.eqv]
      by_cases z : (m : Int) = n
      · rw [z]; simp
      · rw [decide_eq_false z]; exact beq_eq_false_iff_ne.mpr z
    rw [e]
    by_cases z : m = n
    · subst z; simp
    · rw [decide_eq_false (by omega), decide_eq_false (fun q => z (Option.some.inj q))]
theorem any_row (r : List (Option Nat)) (n : Nat) : ((rowL r).any fun z => PyData.eqv z (.int n)) = decide (some n ∈ r) := by
  rw [List.any_map]
  induction r with
  | nil => rfl
  | cons c r ih =>
    rw [List.any_cons, ih]
    show (PyData.eqv (cellD c) (.int n) || _) = _
    rw [eqv_cell]
    by_cases z : c = some n
    · simp [z]
    · have z' : ¬ some n = c := fun q => z q.symm
      simp [z, z']
/-- the first place of a person -/
theorem idx_at {r : List (Option Nat)} {n : Nat} (h : some n ∈ r) : ∃ j : Nat, r[j]? = some (some n) ∧ (∀ m : Nat, m < j → r[m]? ≠ some (some n)) := by
  induction r with
  | nil => cases h
  | cons c r ih =>
    by_cases z : c = some n
    · exact ⟨0, by rw [z]; rfl, fun m l => absurd l (Nat.not_lt_zero _)⟩
    · rcases List.mem_cons.mp h with q | q
      · exact absurd q.symm z
      · obtain ⟨j, h1, h2⟩ := ih q
        refine ⟨j + 1, h1, fun m l => ?_⟩
        cases m with
        | zero => exact fun q => z (Option.some.inj q)
        | succ m => exact h2 m (by omega)
def hold (r : List (Option Nat)) (k : Nat) : Bool := match r[k]? with
  | some (some _) => true
  | _ => false
theorem hold_at {r : List (Option Nat)} {k : Nat} {c : Option Nat} (h : r[k]? = some c) : hold r k = c.isSome := by
  unfold hold
  rw [h]
  cases c <;> rfl
theorem hold_some {r : List (Option Nat)} {k : Nat} (h : hold r k = true) : ∃ n, r[k]? = some (some n) := by
  unfold hold at h
  split at h
  · rename_i n e; exact ⟨n, e⟩
  · cases h
def par (t : List Nat) (k : Nat) : Nat := (t[k - 1]?).getD 0
theorem par_at {t : List Nat} {k p : Nat} (h : t[k - 1]? = some p) : par t k = p := by unfold par; rw [h]; rfl
def opn (t : List Nat) (r : List (Option Nat)) (k : Nat) : Bool := !hold r k && (decide (k = 0) || hold r (par t k))
def openL (t : List Nat) (r : List (Option Nat)) : List Nat := (List.range (t.length + 1)).filter (opn t r)
theorem open_lt {t : List Nat} {r : List (Option Nat)} {k : Nat} (h : k ∈ openL t r) : k < t.length + 1 ∧ opn t r k = true := by
  obtain ⟨h1, h2⟩ := List.mem_filter.mp h
  exact ⟨List.mem_range.mp h1, h2⟩
theorem arr_empty (t : List Nat) : Arr t (List.replicate (t.length + 1) none) :=
  ⟨List.length_replicate, fun i j n h => (nomatch (List.eq_of_mem_replicate (List.mem_of_getElem? h))), fun k p n _ h => (nomatch (List.eq_of_mem_replicate (List.mem_of_getElem? h)))⟩
/-- somebody more junior than all takes an open post -/
theorem arr_put {t : List Nat} {r : List (Option Nat)} (c : Chart t) (a : Arr t r) {k n : Nat} (hk : k < t.length + 1) (o : opn t r k = true) (top : ∀ m, some m ∈ r → m < n) : Arr t (r.set k (some n)) := by
  have lk : k < r.length := by rw [a.len]; exact hk
  unfold opn at o
  rw [Bool.and_eq_true, Bool.or_eq_true] at o
  have e0 : r[k]? = some none := by
    obtain ⟨x, e⟩ := row_has lk
    have := hold_at e
    rw [this] at o
    cases x with
    | none => exact e
    | some m => exact absurd o.1 (by simp)
  have old : ∀ {j m : Nat}, r[j]? = some (some m) → j ≠ k := fun e z => by subst z; rw [e0] at e; cases e
  have get : ∀ {j : Nat} {x : Option Nat}, (r.set k (some n))[j]? = some x → (j = k ∧ x = some n) ∨ (j ≠ k ∧ r[j]? = some x) := fun {j x} e => by
    by_cases z : j = k
    · subst z
      rw [List.getElem?_set_self lk] at e
      exact .inl ⟨rfl, (Option.some.inj e).symm⟩
    · rw [List.getElem?_set_ne (Ne.symm z)] at e
      exact .inr ⟨z, e⟩
  refine ⟨by rw [List.length_set]; exact a.len, fun i j m h1 h2 => ?_, fun q p m hp h => ?_⟩
  · rcases get h1 with ⟨i1, e1⟩ | ⟨i1, e1⟩
    · rcases get h2 with ⟨j1, _⟩ | ⟨_, e2⟩
      · rw [i1, j1]
      · cases e1
        have := top _ (List.mem_of_getElem? e2)
        omega
    · rcases get h2 with ⟨_, e2⟩ | ⟨_, e2⟩
      · cases e2
        have := top _ (List.mem_of_getElem? e1)
        omega
      · exact a.inj i j m e1 e2
  · rcases get h with ⟨i1, e1⟩ | ⟨i1, e1⟩
    · cases e1
      have hq : q = k - 1 := by omega
      subst hq
      have k0 : ¬ k = 0 := by omega
      rcases o.2 with z | z
      · exact absurd (of_decide_eq_true z) k0
      · rw [par_at hp] at z
        obtain ⟨x, ex⟩ := hold_some z
        refine ⟨x, ?_, top _ (List.mem_of_getElem? ex)⟩
        rw [List.getElem?_set_ne (Ne.symm (old ex))]
        exact ex
    · obtain ⟨x, ex, lt⟩ := a.ord q p m hp e1
      refine ⟨x, ?_, lt⟩
      rw [List.getElem?_set_ne (Ne.symm (old ex))]
      exact ex
/-- the number of empty posts -/
def emp (r : List (Option Nat)) : Nat := (r.filter fun c => !c.isSome).length
theorem emp_put {n : Nat} : ∀ {r : List (Option Nat)} {k : Nat}, r[k]? = some none → emp (r.set k (some n)) + 1 = emp r
  | c :: r, 0, h => by
    have z : c = none := Option.some.inj h
    subst z
    rfl
  | c :: r, k + 1, h => by
    have ih := emp_put (n := n) (r := r) (k := k) h
    unfold emp at ih ⊢
    rw [List.set_cons_succ, List.filter_cons, List.filter_cons]
    split
    · rw [List.length_cons, List.length_cons]; omega
    · exact ih
theorem emp_all (k : Nat) : emp (List.replicate k none) = k := by
  induction k with
  | zero => rfl
  | succ k ih => exact congrArg (· + 1) ih
theorem emp_some {r : List (Option Nat)} (h : 0 < emp r) : ∃ k : Nat, r[k]? = some none := by
  unfold emp at h
  obtain ⟨c, hc⟩ := List.exists_mem_of_length_pos h
  obtain ⟨h1, h2⟩ := List.mem_filter.mp hc
  cases c with
  | none => exact List.mem_iff_getElem?.mp h1
  | some n => cases h2
/-- while there is an empty post there is an open one -/
theorem open_some {t : List Nat} {r : List (Option Nat)} (c : Chart t) (len : r.length = t.length + 1) : ∀ k : Nat, k < t.length + 1 → hold r k = false → ∃ j, j ∈ openL t r
  | 0, h, e => ⟨0, List.mem_filter.mpr ⟨List.mem_range.mpr h, by unfold opn; rw [e]; rfl⟩⟩
  | k + 1, h, e => by
    obtain ⟨p, hp⟩ := chart_has (t := t) (j := k + 1) (by omega) h
    have lp : p ≤ k := c _ _ hp
    cases q : hold r p with
    | true => exact ⟨k + 1, List.mem_filter.mpr ⟨List.mem_range.mpr h, by unfold opn; rw [e, par_at hp, q]; simp⟩⟩
    | false => exact open_some c len p (by omega) q
theorem open_pos {t : List Nat} {r : List (Option Nat)} (c : Chart t) (len : r.length = t.length + 1) (h : 0 < emp r) : 1 ≤ (openL t r).length := by
  obtain ⟨k, e⟩ := emp_some h
  have lk : k < t.length + 1 := by rw [← len]; exact (List.getElem?_eq_some_iff.mp e).1
  obtain ⟨j, hj⟩ := open_some c len k lk (by rw [hold_at e]; rfl)
  exact List.length_pos_of_mem hj
theorem open_len (t : List Nat) (r : List (Option Nat)) : (openL t r).length ≤ t.length + 1 := by
  have := List.length_filter_le (opn t r) (List.range (t.length + 1))
  rw [List.length_range] at this
  exact this
/-- the place as answered -/
def posD (r : List (Option Nat)) (n : Nat) : PD := if some n ∈ r then .int ((r.findIdx fun c => decide (c = some n) : Nat) : Int) else .none
theorem pos_at {r : List (Option Nat)} {j n : Nat} (h : r[j]? = some (some n)) (f : ∀ m, m < j → r[m]? ≠ some (some n)) : posD r n = .int j := by
  unfold posD
  rw [if_pos (List.mem_of_getElem? h)]
  have lj := (List.getElem?_eq_some_iff.mp h).1
  have e : (r.findIdx fun c => decide (c = some n)) = j := by
    refine (List.findIdx_eq lj).mpr ⟨?_, fun m l => ?_⟩
    · rw [(List.getElem?_eq_some_iff.mp h).2]; simp
    · have := f m l
      rw [List.getElem?_eq_getElem (by omega)] at this
      exact decide_eq_false fun z => this (congrArg some z)
  rw [e]
theorem pos_no {r : List (Option Nat)} {n : Nat} (h : some n ∉ r) : posD r n = .none := by unfold posD; rw [if_neg h]
/-! shown -/
theorem int_show {n : Nat} (h : n < 2 ^ 62) : ((n : Int).natAbs.log2 < 1920) := by
  rw [Int.natAbs_natCast]
  by_cases z : n = 0
  · subst z; decide
  · exact Nat.lt_trans ((Nat.log2_lt z).mpr h) (by decide)
theorem show_all : ∀ l : List Nat, (∀ n ∈ l, n < 2 ^ 62) → PyData.showableAll (intsD l) = true ∧ PyData.hasDictAll (intsD l) = false ∧ PyData.depthAll (intsD l) = 0 ∧ ((PyData.shownAll (intsD l)).map (·.length)).sum ≤ 70 * l.length ∧ (PyData.shownAll (intsD l)).length = l.length
  | [], _ => ⟨rfl, rfl, rfl, Nat.le_refl _, rfl⟩
  | n :: l, h => by
    obtain ⟨h1, h2, h3, h4, h5⟩ := show_all l fun m z => h m (List.mem_cons_of_mem _ z)
    have a := int_show (h n List.mem_cons_self)
    have b : (Str.ofString (toString (n : Int))).length ≤ 64 := by
      rw [ofString_length]
      refine Nat.le_trans (int_text_length_le (k := 63) (by decide) ?_) (by decide)
      rw [Int.natAbs_natCast]
      by_cases z : n = 0
      · subst z; decide
      · exact Nat.lt_trans ((Nat.log2_lt z).mpr (h n List.mem_cons_self)) (by decide)
    refine ⟨?_, ?_, ?_, ?_, ?_⟩
    · show (PyData.showable (.int n) && _) = true
      rw [Bool.and_eq_true]
      exact ⟨decide_eq_true a, h1⟩
    · show (PyData.hasDict (.int n) || PyData.hasDictAll (intsD l)) = false
      rw [h2]; rfl
    · show max (PyData.depth (.int n)) (PyData.depthAll (intsD l)) = 0
      rw [h3]; rfl
    · show ((Str.ofString (toString (n : Int))).length + ((PyData.shownAll (intsD l)).map (·.length)).sum) ≤ _
      rw [List.length_cons]
      omega
    · show (PyData.shown (.int n) :: PyData.shownAll (intsD l)).length = _
      rw [List.length_cons, h5, List.length_cons]
theorem strOk_app {a b : Str} (ha : PyData.strOk a = true) (hb : PyData.strOk b = true) : PyData.strOk (a ++ b) = true := by
  unfold PyData.strOk at *
  have e : (a ++ b).cps = a.cps ++ b.cps := rfl
  rw [e, Array.all_append, ha, hb]
  rfl
theorem text_ok : ∀ (ts : List Str) (k : Nat) (acc : Str), PyData.strOk acc = true → (∀ t ∈ ts, PyData.strOk t = true) → PyData.strOk (textFrom k acc ts) = true
  | [], _, _, h, _ => h
  | t :: ts, k, acc, h, g => text_ok ts (k + 1) _ (strOk_app (strOk_app h (strOk_of _)) (g t List.mem_cons_self)) fun u z => g u (List.mem_cons_of_mem _ z)
theorem shown_ints_ok (l : List Nat) : PyData.strOk (PyData.shown (.list (intsD l))) = true := by
  show PyData.strOk (textFrom 0 "[" (PyData.shownAll (intsD l)) ++ "]") = true
  refine strOk_app (text_ok _ _ _ (strOk_of _) ?_) (strOk_of _)
  induction l with
  | nil => intro t h; cases h
  | cons n l ih =>
    intro t h
    have h' : t ∈ Str.ofString (toString (n : Int)) :: PyData.shownAll (intsD l) := h
    rcases List.mem_cons.mp h' with z | z
    · rw [z]; exact strOk_of _
    · exact ih t z
end MU
namespace Law
open PySem PySem.Spec L2 MU

def top (i : Nat) : Stmt := PySem.Challenge.pw_movingup_k08_posts_of_people.main.body.getD i (.Pass ⟨0, 0, 0, 0⟩)
abbrev s_is_whole : Stmt := top 1
abbrev N_is_whole : List Str := ["value"]
abbrev P_is_whole : List Str := ["value"]
theorem sc_is_whole : FnScope N_is_whole P_is_whole (defScope s_is_whole) := ⟨rfl, rfl, rfl, by decide +kernel, rfl, by decide +kernel, by decide +kernel⟩
abbrev s_is_person : Stmt := top 2
abbrev N_is_person : List Str := ["value"]
abbrev P_is_person : List Str := ["value"]
theorem sc_is_person : FnScope N_is_person P_is_person (defScope s_is_person) := ⟨rfl, rfl, rfl, by decide +kernel, rfl, by decide +kernel, by decide +kernel⟩
abbrev s_is_post : Stmt := top 3
abbrev N_is_post : List Str := ["value", "count"]
abbrev P_is_post : List Str := ["value", "count"]
theorem sc_is_post : FnScope N_is_post P_is_post (defScope s_is_post) := ⟨rfl, rfl, rfl, by decide +kernel, rfl, by decide +kernel, by decide +kernel⟩
abbrev s_check_chart : Stmt := top 10
abbrev N_check_chart : List Str := ["value", "k"]
abbrev P_check_chart : List Str := ["value"]
theorem sc_check_chart : FnScope N_check_chart P_check_chart (defScope s_check_chart) := ⟨rfl, rfl, rfl, by decide +kernel, rfl, by decide +kernel, by decide +kernel⟩
abbrev s_require_chart : Stmt := top 11
abbrev N_require_chart : List Str := ["chart", "reason"]
abbrev P_require_chart : List Str := ["chart"]
theorem sc_require_chart : FnScope N_require_chart P_require_chart (defScope s_require_chart) := ⟨rfl, rfl, rfl, by decide +kernel, rfl, by decide +kernel, by decide +kernel⟩
abbrev s_check_arrangement : Stmt := top 13
abbrev N_check_arrangement : List Str := ["chart", "value", "k", "person", "seen"]
abbrev P_check_arrangement : List Str := ["chart", "value"]
theorem sc_check_arrangement : FnScope N_check_arrangement P_check_arrangement (defScope s_check_arrangement) := ⟨rfl, rfl, rfl, by decide +kernel, rfl, by decide +kernel, by decide +kernel⟩
abbrev s_may_stand_below : Stmt := top 14
abbrev N_may_stand_below : List Str := ["person", "above"]
abbrev P_may_stand_below : List Str := ["person", "above"]
theorem sc_may_stand_below : FnScope N_may_stand_below P_may_stand_below (defScope s_may_stand_below) := ⟨rfl, rfl, rfl, by decide +kernel, rfl, by decide +kernel, by decide +kernel⟩
abbrev s_require_arrangement : Stmt := top 15
abbrev N_require_arrangement : List Str := ["chart", "arrangement", "reason"]
abbrev P_require_arrangement : List Str := ["chart", "arrangement"]
theorem sc_require_arrangement : FnScope N_require_arrangement P_require_arrangement (defScope s_require_arrangement) := ⟨rfl, rfl, rfl, by decide +kernel, rfl, by decide +kernel, by decide +kernel⟩
abbrev s_post_of : Stmt := top 16
abbrev N_post_of : List Str := ["chart", "arrangement", "person"]
abbrev P_post_of : List Str := ["chart", "arrangement", "person"]
theorem sc_post_of : FnScope N_post_of P_post_of (defScope s_post_of) := ⟨rfl, rfl, rfl, by decide +kernel, rfl, by decide +kernel, by decide +kernel⟩
abbrev s_is_open : Stmt := top 17
abbrev N_is_open : List Str := ["chart", "arrangement", "post"]
abbrev P_is_open : List Str := ["chart", "arrangement", "post"]
theorem sc_is_open : FnScope N_is_open P_is_open (defScope s_is_open) := ⟨rfl, rfl, rfl, by decide +kernel, rfl, by decide +kernel, by decide +kernel⟩
abbrev s_open_posts : Stmt := top 18
abbrev N_open_posts : List Str := ["chart", "arrangement", "k"]
abbrev P_open_posts : List Str := ["chart", "arrangement"]
theorem sc_open_posts : FnScope N_open_posts P_open_posts (defScope s_open_posts) := ⟨rfl, rfl, rfl, by decide +kernel, rfl, by decide +kernel, by decide +kernel⟩
abbrev s_l_cell : Stmt := top 20
abbrev N_l_cell : List Str := ["_law_script", "_law_index"]
abbrev P_l_cell : List Str := ["_law_script", "_law_index"]
theorem sc_l_cell : FnScope N_l_cell P_l_cell (defScope s_l_cell) := ⟨rfl, rfl, rfl, by decide +kernel, rfl, by decide +kernel, by decide +kernel⟩
abbrev s_l_hash : Stmt := top 21
abbrev N_l_hash : List Str := ["_law_seed", "_law_index", "_law_mixed"]
abbrev P_l_hash : List Str := ["_law_seed", "_law_index"]
theorem sc_l_hash : FnScope N_l_hash P_l_hash (defScope s_l_hash) := ⟨rfl, rfl, rfl, by decide +kernel, rfl, by decide +kernel, by decide +kernel⟩
abbrev s_l_generator : Stmt := top 22
abbrev N_l_generator : List Str := ["_law_script", "_law_index", "_law_seed"]
abbrev P_l_generator : List Str := ["_law_script", "_law_index"]
theorem sc_l_generator : FnScope N_l_generator P_l_generator (defScope s_l_generator) := ⟨rfl, rfl, rfl, by decide +kernel, rfl, by decide +kernel, by decide +kernel⟩
abbrev s_l_random : Stmt := top 23
abbrev N_l_random : List Str := ["_law_generator_here", "_law_bound", "_law_drawn", "_law_part"]
abbrev P_l_random : List Str := ["_law_generator_here", "_law_bound"]
theorem sc_l_random : FnScope N_l_random P_l_random (defScope s_l_random) := ⟨rfl, rfl, rfl, by decide +kernel, rfl, by decide +kernel, by decide +kernel⟩
abbrev s_l_random_chart : Stmt := top 24
abbrev N_l_random_chart : List Str := ["_law_generator_here", "_law_most", "_law_size", "_law_kind", "_law_tree", "_law_place", "_law_upper"]
abbrev P_l_random_chart : List Str := ["_law_generator_here", "_law_most"]
theorem sc_l_random_chart : FnScope N_l_random_chart P_l_random_chart (defScope s_l_random_chart) := ⟨rfl, rfl, rfl, by decide +kernel, rfl, by decide +kernel, by decide +kernel⟩
abbrev s_l_names : Stmt := top 25
abbrev N_l_names : List Str := ["_law_generator_here", "_law_count", "_law_kind", "_law_names_here", "_law_name", "_law_index"]
abbrev P_l_names : List Str := ["_law_generator_here", "_law_count"]
theorem sc_l_names : FnScope N_l_names P_l_names (defScope s_l_names) := ⟨rfl, rfl, rfl, by decide +kernel, rfl, by decide +kernel, by decide +kernel⟩
abbrev s_l_open : Stmt := top 26
abbrev N_l_open : List Str := ["_law_tree", "_law_rows", "_law_found", "_law_place", "_law_upper"]
abbrev P_l_open : List Str := ["_law_tree", "_law_rows"]
theorem sc_l_open : FnScope N_l_open P_l_open (defScope s_l_open) := ⟨rfl, rfl, rfl, by decide +kernel, rfl, by decide +kernel, by decide +kernel⟩
abbrev s_l_filled : Stmt := top 27
abbrev N_l_filled : List Str := ["_law_generator_here", "_law_tree", "_law_names_here", "_law_rows", "_law_name", "_law_free"]
abbrev P_l_filled : List Str := ["_law_generator_here", "_law_tree", "_law_names_here"]
theorem sc_l_filled : FnScope N_l_filled P_l_filled (defScope s_l_filled) := ⟨rfl, rfl, rfl, by decide +kernel, rfl, by decide +kernel, by decide +kernel⟩
abbrev s_l_random_rows : Stmt := top 28
abbrev N_l_random_rows : List Str := ["_law_generator_here", "_law_tree", "_law_size", "_law_count"]
abbrev P_l_random_rows : List Str := ["_law_generator_here", "_law_tree"]
theorem sc_l_random_rows : FnScope N_l_random_rows P_l_random_rows (defScope s_l_random_rows) := ⟨rfl, rfl, rfl, by decide +kernel, rfl, by decide +kernel, by decide +kernel⟩
abbrev s_l_held : Stmt := top 29
abbrev N_l_held : List Str := ["_law_rows", "_law_name"]
abbrev P_l_held : List Str := ["_law_rows"]
theorem sc_l_held : FnScope N_l_held P_l_held (defScope s_l_held) := ⟨rfl, rfl, rfl, by decide +kernel, rfl, by decide +kernel, by decide +kernel⟩
abbrev s_l_right : Stmt := top 30
abbrev N_l_right : List Str := ["_law_generator_here", "_law_tree", "_law_rows", "_law_attempt", "_law_result", "_law_place", "_law_name", "_law_others"]
abbrev P_l_right : List Str := ["_law_generator_here", "_law_tree", "_law_rows"]
theorem sc_l_right : FnScope N_l_right P_l_right (defScope s_l_right) := ⟨rfl, rfl, rfl, by decide +kernel, rfl, by decide +kernel, by decide +kernel⟩
abbrev s_law : Stmt := top 31
abbrev N_law : List Str := ["_law_script", "_law_index", "_law_generator_here", "_law_tree", "_law_rows", "_law_attempt"]
abbrev P_law : List Str := ["_law_script"]
theorem sc_law : FnScope N_law P_law (defScope s_law) := ⟨rfl, rfl, rfl, by decide +kernel, rfl, by decide +kernel, by decide +kernel⟩
/-- what the top has written -/
structure Tx (K : PySem.W.Frag) (mg : Str → Option Value) where
  a_is_whole : Addr
  d_is_whole : FuncData
  f_is_whole : Fun K "is_whole" "is_whole" s_is_whole a_is_whole d_is_whole
  b_is_whole : Binds K d_is_whole P_is_whole []
  m_is_whole : mg "is_whole" = some (.ref a_is_whole)
  a_is_person : Addr
  d_is_person : FuncData
  f_is_person : Fun K "is_person" "is_person" s_is_person a_is_person d_is_person
  b_is_person : Binds K d_is_person P_is_person []
  m_is_person : mg "is_person" = some (.ref a_is_person)
  a_is_post : Addr
  d_is_post : FuncData
  f_is_post : Fun K "is_post" "is_post" s_is_post a_is_post d_is_post
  b_is_post : Binds K d_is_post P_is_post []
  m_is_post : mg "is_post" = some (.ref a_is_post)
  a_check_chart : Addr
  d_check_chart : FuncData
  f_check_chart : Fun K "check_chart" "check_chart" s_check_chart a_check_chart d_check_chart
  b_check_chart : Binds K d_check_chart P_check_chart []
  m_check_chart : mg "check_chart" = some (.ref a_check_chart)
  a_require_chart : Addr
  d_require_chart : FuncData
  f_require_chart : Fun K "require_chart" "require_chart" s_require_chart a_require_chart d_require_chart
  b_require_chart : Binds K d_require_chart P_require_chart []
  m_require_chart : mg "require_chart" = some (.ref a_require_chart)
  a_check_arrangement : Addr
  d_check_arrangement : FuncData
  f_check_arrangement : Fun K "check_arrangement" "check_arrangement" s_check_arrangement a_check_arrangement d_check_arrangement
  b_check_arrangement : Binds K d_check_arrangement P_check_arrangement []
  m_check_arrangement : mg "check_arrangement" = some (.ref a_check_arrangement)
  a_may_stand_below : Addr
  d_may_stand_below : FuncData
  f_may_stand_below : Fun K "may_stand_below" "may_stand_below" s_may_stand_below a_may_stand_below d_may_stand_below
  b_may_stand_below : Binds K d_may_stand_below P_may_stand_below []
  m_may_stand_below : mg "may_stand_below" = some (.ref a_may_stand_below)
  a_require_arrangement : Addr
  d_require_arrangement : FuncData
  f_require_arrangement : Fun K "require_arrangement" "require_arrangement" s_require_arrangement a_require_arrangement d_require_arrangement
  b_require_arrangement : Binds K d_require_arrangement P_require_arrangement []
  m_require_arrangement : mg "require_arrangement" = some (.ref a_require_arrangement)
  a_post_of : Addr
  d_post_of : FuncData
  f_post_of : Fun K "post_of" "post_of" s_post_of a_post_of d_post_of
  b_post_of : Binds K d_post_of P_post_of []
  m_post_of : mg "post_of" = some (.ref a_post_of)
  a_is_open : Addr
  d_is_open : FuncData
  f_is_open : Fun K "is_open" "is_open" s_is_open a_is_open d_is_open
  b_is_open : Binds K d_is_open P_is_open []
  m_is_open : mg "is_open" = some (.ref a_is_open)
  a_open_posts : Addr
  d_open_posts : FuncData
  f_open_posts : Fun K "open_posts" "open_posts" s_open_posts a_open_posts d_open_posts
  b_open_posts : Binds K d_open_posts P_open_posts []
  m_open_posts : mg "open_posts" = some (.ref a_open_posts)
  a_l_cell : Addr
  d_l_cell : FuncData
  f_l_cell : Fun K "_law_cell" "_law_cell" s_l_cell a_l_cell d_l_cell
  b_l_cell : Binds K d_l_cell P_l_cell []
  m_l_cell : mg "_law_cell" = some (.ref a_l_cell)
  a_l_hash : Addr
  d_l_hash : FuncData
  f_l_hash : Fun K "_law_hash" "_law_hash" s_l_hash a_l_hash d_l_hash
  b_l_hash : Binds K d_l_hash P_l_hash []
  m_l_hash : mg "_law_hash" = some (.ref a_l_hash)
  a_l_generator : Addr
  d_l_generator : FuncData
  f_l_generator : Fun K "_law_generator" "_law_generator" s_l_generator a_l_generator d_l_generator
  b_l_generator : Binds K d_l_generator P_l_generator []
  m_l_generator : mg "_law_generator" = some (.ref a_l_generator)
  a_l_random : Addr
  d_l_random : FuncData
  f_l_random : Fun K "_law_random" "_law_random" s_l_random a_l_random d_l_random
  b_l_random : Binds K d_l_random P_l_random []
  m_l_random : mg "_law_random" = some (.ref a_l_random)
  a_l_random_chart : Addr
  d_l_random_chart : FuncData
  f_l_random_chart : Fun K "_law_random_chart" "_law_random_chart" s_l_random_chart a_l_random_chart d_l_random_chart
  b_l_random_chart : Binds K d_l_random_chart P_l_random_chart []
  m_l_random_chart : mg "_law_random_chart" = some (.ref a_l_random_chart)
  a_l_names : Addr
  d_l_names : FuncData
  f_l_names : Fun K "_law_names" "_law_names" s_l_names a_l_names d_l_names
  b_l_names : Binds K d_l_names P_l_names []
  m_l_names : mg "_law_names" = some (.ref a_l_names)
  a_l_open : Addr
  d_l_open : FuncData
  f_l_open : Fun K "_law_open" "_law_open" s_l_open a_l_open d_l_open
  b_l_open : Binds K d_l_open P_l_open []
  m_l_open : mg "_law_open" = some (.ref a_l_open)
  a_l_filled : Addr
  d_l_filled : FuncData
  f_l_filled : Fun K "_law_filled" "_law_filled" s_l_filled a_l_filled d_l_filled
  b_l_filled : Binds K d_l_filled P_l_filled []
  m_l_filled : mg "_law_filled" = some (.ref a_l_filled)
  a_l_random_rows : Addr
  d_l_random_rows : FuncData
  f_l_random_rows : Fun K "_law_random_rows" "_law_random_rows" s_l_random_rows a_l_random_rows d_l_random_rows
  b_l_random_rows : Binds K d_l_random_rows P_l_random_rows []
  m_l_random_rows : mg "_law_random_rows" = some (.ref a_l_random_rows)
  a_l_held : Addr
  d_l_held : FuncData
  f_l_held : Fun K "_law_held" "_law_held" s_l_held a_l_held d_l_held
  b_l_held : Binds K d_l_held P_l_held []
  m_l_held : mg "_law_held" = some (.ref a_l_held)
  a_l_right : Addr
  d_l_right : FuncData
  f_l_right : Fun K "_law_right" "_law_right" s_l_right a_l_right d_l_right
  b_l_right : Binds K d_l_right P_l_right []
  m_l_right : mg "_law_right" = some (.ref a_l_right)
  a_law : Addr
  d_law : FuncData
  f_law : Fun K "law" "law" s_law a_law d_law
  b_law : Binds K d_law P_law []
  m_law : mg "law" = some (.ref a_law)
  kt : KT K
  z_bool : mg "bool" = none
  z_enumerate : mg "enumerate" = none
  z_int : mg "int" = none
  z_isinstance : mg "isinstance" = none
  z_len : mg "len" = none
  z_max : mg "max" = none
  z_min : mg "min" = none
  z_range : mg "range" = none
  z_repr : mg "repr" = none
  z_set : mg "set" = none
  z_sorted : mg "sorted" = none
  z_str : mg "str" = none
  z_tuple : mg "tuple" = none
section
variable {P : Program} {w : World} {K : PySem.W.Frag} {mg : Str → Option Value} {base : Heap}
def R_is_whole : List PD → PD → Prop := fun ds d => ∃ x, ds = [x] ∧ d = .bool (isIntD x && !isBoolD x)
theorem ok_is_whole (T : Tx K mg) : FnOk P w K mg base CX0 1 T.a_is_whole T.d_is_whole P_is_whole (spS K 1 R_is_whole) := by
  refine fun_okC T.f_is_whole sc_is_whole len_S (fun cdv hkc A outer s H vs Q E hr h => ?_)
  have hkd := kds_of_code hkc
  obtain ⟨F, ds, d, hF, hd, hl, r, k⟩ := h
  obtain ⟨x, rfl, rfl⟩ := r
  refine ⟨_, (pss_one (ps_ret (pe_and (pe_callB (k_isi (K := K)) (by rfl) T.z_isinstance (by decide +kernel) (pa_cons (pv 0) (pa_cons (pe_bltn (v := .ty "int") (by rfl) T.z_int (by decide +kernel) rfl) pa_nil))) (pe_one (pe_not (pe_callB (k_isi (K := K)) (by rfl) T.z_isinstance (by decide +kernel) (pa_cons (pv 0) (pa_cons (pe_bltn (v := .ty "bool") (by rfl) T.z_bool (by decide +kernel) rfl) pa_nil)))))))), run_spS (w := w) hF hd k ?_⟩
  exact run_ret (ev_andV (ev_isi (rd_var rfl) kit_int) fun _ => ev_notV (ev_isi (rd_var rfl) kit_bool)) (.inl rfl)
def R_is_post : List PD → PD → Prop := fun ds d => ∃ i n : Int, ds = [.int i, .int n] ∧ d = .bool (decide (0 ≤ i) && decide (i < n))
theorem ok_is_post (T : Tx K mg) : FnOk P w K mg base CX0 2 T.a_is_post T.d_is_post P_is_post (spS K 2 R_is_post) := by
  refine fun_okC T.f_is_post sc_is_post len_S (fun cdv hkc A outer s H vs Q E hr h => ?_)
  have hkd := kds_of_code hkc
  obtain ⟨F, ds, d, hF, hd, hl, r, k⟩ := h
  obtain ⟨i, n, rfl, rfl⟩ := r
  refine ⟨_, (pss_one (ps_ret (pe_and (pe_call (ok_is_whole T) (hr.mono (by decide)) (by rfl) T.m_is_whole T.f_is_whole.kp T.b_is_whole .nil pass0 (pa_cons (pv 0) pa_nil)) (pe_one (pe_chain op_le op_lt pe_int (pv 0) (pv 1)))))), run_spS (w := w) hF hd k ?_⟩
  exact run_ret (ev_andV (a := true) (ev_call (ea_cons (ev_var rfl) ea_nil) ⟨_, rfl, rfl⟩) fun _ => ev_chain rd_int (rd_var rfl) (rd_var rfl)) (.inl rfl)
def R_check_chart : List PD → PD → Prop := fun ds d => ∃ t, Chart t ∧ t.length < 2000 ∧ ds = [chartD t] ∧ d = .none
theorem ok_check_chart (T : Tx K mg) : FnOk P w K mg base CX0 3 T.a_check_chart T.d_check_chart P_check_chart (spS K 1 R_check_chart) := by
  refine fun_okC T.f_check_chart sc_check_chart len_S (fun cdv hkc A outer s H vs Q E hr h => ?_)
  have hkd := kds_of_code hkc
  obtain ⟨F, ds, d, hF, hd, hl, r, k⟩ := h
  obtain ⟨t, ct, lt, rfl, rfl⟩ := r
  refine ⟨_, (pss_cons (ps_if (PW.pt (pw_or (pt_not (pt_val (pe_callB (k_isi (K := K)) (by rfl) T.z_isinstance (by decide +kernel) (pa_cons (pv 0) (pa_cons (pe_bltn (v := .ty "tuple") (by rfl) T.z_tuple (by decide +kernel) rfl) pa_nil))))) (pw_or (pt_cmpR (k_eq (K := K) hr.units) (pe_callB (k_len (K := K)) (by rfl) T.z_len (by decide +kernel) (pa_cons (pv 0) pa_nil)) pe_int (nomark _)) (pw_or1 (pt_cmpR op_notN (pe_ix (k_ixT (K := K)) (pv 0) pe_int (fun _ _ => rfl)) pe_non (nomark _)))))) (pss_one (ps_ret (pe_tupN (pa_cons pe_str pa_nil)))) pss_nil)
      (pss_cons (ps_for PassesOwn.never rfl (pi_range2 (by rfl) T.z_range (pa_cons pe_int (pa_cons (pe_callB (k_len (K := K)) (by rfl) T.z_len (by decide +kernel) (pa_cons (pv 0) pa_nil)) pa_nil))) (pg_name (i := 1) sc_check_chart.nd rfl (by first | exact Or.inl rfl | exact Or.inr rfl))
      (pss_one (ps_if (pt_not (pt_val (pe_call (ok_is_post T) (hr.mono (by decide)) (by rfl) T.m_is_post T.f_is_post.kp T.b_is_post .nil pass0 (pa_cons (pe_ix (k_ixT (K := K)) (pv 0) (pv 1) (fun _ _ => rfl)) (pa_cons (pv 1) pa_nil))))) (pss_one (ps_ret (pe_tupN (pa_cons pe_str (pa_cons (pv 1) pa_nil))))) pss_nil)))
      (pss_one (ps_ret pe_non)))), run_spS (w := w) hF hd k ?_⟩
  have l0 : ((chartL t).length : Int) = t.length + 1 := by rw [chart_len]; rfl
  refine run_seq1 (run_no (ts_or (ts_not (ts_val (ev_isi (rd_var rfl) kit_tup))) fun _ => ts_or (ts_cmp (ev_eq (ev_len (rd_var rfl)).rd rd_int rfl rfl)) fun _ => ts_cmp (ev_notN (ev_ixT (ev_var rfl) ev_int (at_nat (chart_at0 t))).rd)) ?_ (run_next rfl)) ?_
  · simp [isTupD, chartD, MU.isNon, PyData.eqv]
    omega
  refine run_seq (mid := fun δ' => ∃ s, δ' = [.d (chartD t), s]) (run_for (it_rng2 rd_int (ev_len (rd_var rfl)).rd (by rw [l0]; omega)) (fun _ δ' => ∃ s, δ' = [.d (chartD t), s]) ⟨_, rfl⟩ ?_ fun _ z => z) ?_
  · rintro k x δ' hk ⟨s, rfl⟩
    obtain ⟨hk, rfl⟩ := rng_at hk
    have hk : k < t.length := by
      have l1 : (PyData.none :: List.map (fun n : Nat => PyData.int n) t).length = t.length + 1 := chart_len t
      rw [l1] at hk
      omega
    obtain ⟨p, hp⟩ : ∃ p, t[k]? = some p := ⟨_, List.getElem?_eq_getElem (by omega)⟩
    have q := ct k p hp
    have ek : (1 : Int) + (k : Nat) = ((k + 1 : Nat) : Int) := by omega
    refine ⟨_, _, tg_name, run_no (ts_not (ts_val (ev_call (ea_cons (ev_ixT (ev_var rfl) (ev_var rfl) (by rw [ek]; exact at_nat (chart_at hp))) (ea_cons (ev_var rfl) ea_nil)) ⟨_, _, rfl, rfl⟩))) ?_ (run_next ⟨_, rfl⟩)⟩
    rw [decide_eq_true (by omega), decide_eq_true (by omega)]
    rfl
  · rintro δ' ⟨s, rfl⟩
    exact run_ret ev_non (.inl rfl)
def R_require_chart : List PD → PD → Prop := R_check_chart
theorem ok_require_chart (T : Tx K mg) : FnOk P w K mg base CX0 4 T.a_require_chart T.d_require_chart P_require_chart (spS K 1 R_require_chart) := by
  refine fun_okC T.f_require_chart sc_require_chart len_S (fun cdv hkc A outer s H vs Q E hr h => ?_)
  have hkd := kds_of_code hkc
  obtain ⟨F, ds, d, hF, hd, hl, r, k⟩ := h
  obtain ⟨t, ct, lt, rfl, rfl⟩ := r
  refine ⟨_, (pss_cons (ps_set (i := 1) sc_require_chart.nd rfl (by first | exact Or.inl rfl | exact Or.inr rfl) (pe_call (ok_check_chart T) (hr.mono (by decide)) (by rfl) T.m_check_chart T.f_check_chart.kp T.b_check_chart .nil pass0 (pa_cons (pv 0) pa_nil)))
      (pss_one (ps_if (pt_cmpR op_notN (pv 1) pe_non (nomark _)) (pss_one ps_never) pss_nil))), run_spS (w := w) hF hd k ?_⟩
  exact run_seq1 (run_set (ev_call (ea_cons (ev_var rfl) ea_nil) ⟨t, ct, lt, rfl, rfl⟩) rfl) (run_no (ts_cmp (ev_notN (rd_var rfl))) rfl (run_next rfl))
def R_require_post : List PD → PD → Prop := fun ds d => ∃ (t : List Nat) (j : Nat), j < t.length + 1 ∧ ds = [chartD t, .int j] ∧ d = .none
end
section
variable {P : Program} {w : World} {K : PySem.W.Frag} {mg : Str → Option Value} {base : Heap}
def R_cell : List PD → PD → Prop := fun ds d => ∃ (ns : List Int) (i : Nat), ds = [.list (ns.map .int), .int i] ∧ d = .int (ns.getD i 0)
theorem ok_l_cell (T : Tx K mg) : FnOk P w K mg base CX0 1 T.a_l_cell T.d_l_cell P_l_cell (spS K 2 R_cell) := by
  refine fun_okC T.f_l_cell sc_l_cell len_S (fun cdv hkc A outer s H vs Q E hr h => ?_)
  have hkd := kds_of_code hkc
  obtain ⟨F, ds, d, hF, hd, hl, r, k⟩ := h
  obtain ⟨ns, i, rfl, rfl⟩ := r
  refine ⟨_, (pss_cons (ps_if (pt_cmpR op_lt (pv 1) (pe_callB (k_len (K := K)) (by rfl) T.z_len (by decide +kernel) (pa_cons (pv 0) pa_nil)) (nomark _)) (pss_one (ps_ret (pe_ix (k_ixL (K := K)) (pv 0) (pv 1) (fun _ _ => rfl)))) pss_nil)
      (pss_one (ps_ret pe_int))), run_spS (w := w) hF hd k ?_⟩
  have l : ((ns.map PyData.int).length : Int) = ns.length := by rw [List.length_map]
  by_cases c : i < ns.length
  · refine run_seq (mid := no1) (run_yes (ts_cmp (ev_lt (rd_var rfl) (ev_len (rd_var rfl)).rd)) (decide_eq_true (by rw [l]; omega)) (run_ret (ev_ixL (ev_var rfl) (ev_var rfl) (at_nat (d := .int ns[i]) (by rw [List.getElem?_map, List.getElem?_eq_getElem c]; rfl))) (.inl ?_))) fun _ z => z.elim
    rw [List.getD_eq_getElem?_getD, List.getElem?_eq_getElem c]
    rfl
  · refine run_seq1 (run_no (ts_cmp (ev_lt (rd_var rfl) (ev_len (rd_var rfl)).rd)) (decide_eq_false (by rw [l]; omega)) (run_next rfl)) (run_ret ev_int (.inl ?_))
    rw [List.getD_eq_getElem?_getD,
          List.getElem?_eq_none (by omega)]
    rfl
def R_hash : List PD → PD → Prop := fun ds d => ∃ s i : Int, 0 ≤ s ∧ s < 2147483647 ∧ 0 ≤ i ∧ i < 2000000000000 ∧ ds = [.int s, .int i] ∧ d = .int (hashF s i)
theorem nat_lt {i : Int} {n : Nat} (h0 : 0 ≤ i) (h : i < (2 : Int) ^ n) : i.natAbs < 2 ^ n := by
  have : (i.natAbs : Int) = i := Int.natAbs_of_nonneg h0
  have q : ((i.natAbs : Nat) : Int) < ((2 ^ n : Nat) : Int) := by rw [this]; simpa using h
  exact Int.ofNat_lt.mp q
theorem ok_l_hash (T : Tx K mg) : FnOk P w K mg base CX0 1 T.a_l_hash T.d_l_hash P_l_hash (spS K 2 R_hash) := by
  refine fun_okC T.f_l_hash sc_l_hash len_S (fun cdv hkc A outer s H vs Q E hr h => ?_)
  have hkd := kds_of_code hkc
  obtain ⟨F, ds, d, hF, hd, hl, r, k⟩ := h
  obtain ⟨s, i, h1, h2, h3, h4, rfl, rfl⟩ := r
  refine ⟨_, (pss_cons (ps_set (i := 2) sc_l_hash.nd rfl (by first | exact Or.inl rfl | exact Or.inr rfl) (pe_op op_mod (pe_callTy call_int1 (by rfl) T.z_int (by decide +kernel) (pa_cons (pe_op op_add (pe_op op_add (pe_op op_add (pe_op op_mulX (pv 0) pe_int) (pe_op op_mulX (pe_op op_mulX pe_int (pv 1)) (pv 1))) (pv 1)) pe_int) pa_nil)) pe_int))
      (pss_cons (ps_set (i := 2) sc_l_hash.nd rfl (by first | exact Or.inl rfl | exact Or.inr rfl) (pe_op op_mod (pe_callTy call_int1 (by rfl) T.z_int (by decide +kernel) (pa_cons (pe_op op_add (pe_op op_mulX (pv 2) (pv 2)) pe_int) pa_nil)) pe_int))
      (pss_one (ps_ret (pe_op op_mod (pe_callTy call_int1 (by rfl) T.z_int (by decide +kernel) (pa_cons (pe_op op_mulX (pv 2) pe_int) pa_nil)) pe_int))))), run_spS (w := w) hF hd k ?_⟩
  have m1 : 0 ≤ hash1 s i ∧ hash1 s i < 2147483647 := ⟨Int.emod_nonneg _ (by decide), Int.emod_lt_of_pos _ (by decide)⟩
  have m2 : 0 ≤ hash2 (hash1 s i) ∧ hash2 (hash1 s i) < 2147483629 := ⟨Int.emod_nonneg _ (by decide), Int.emod_lt_of_pos _ (by decide)⟩
  refine run_seq1 (run_set (ev_mod (ev_toInt (ev_add (ev_add (ev_add (ev_mul (rd_var rfl) rd_int (mulx_ok (a := 31) (b := 31) (nat_lt h1 (by omega)) (by decide) (by decide))).rd (ev_mul (ev_mul rd_int (rd_var rfl) (mulx_ok (a := 31) (b := 41) (by decide) (nat_lt h3 (by omega)) (by decide))).rd (rd_var rfl) (mulx_ok (a := 60) (b := 41) (nat_lt (by omega) (by omega)) (nat_lt h3 (by omega)) (by decide))).rd).rd (rd_var rfl)).rd rd_int).rd).rd rd_int (by decide)) rfl) ?_
  show MU.Run K w _ [.d (.int s), .d (.int i), .d (.int (hash1 s i))] _ _ _ _
  refine run_seq1 (run_set (ev_mod (ev_toInt (ev_add (ev_mul (rd_var rfl) (rd_var rfl) (mulx_ok (a := 31) (b := 31) (nat_lt m1.1 (by omega)) (nat_lt m1.1 (by omega)) (by decide))).rd rd_int).rd).rd rd_int (by decide)) rfl) ?_
  show MU.Run K w _ [.d (.int s), .d (.int i), .d (.int (hash2 (hash1 s i)))] _ _ _ _
  exact run_ret (ev_mod (ev_toInt (ev_mul (rd_var rfl) rd_int (mulx_ok (a := 31) (b := 31) (nat_lt m2.1 (by omega)) (by decide) (by decide))).rd).rd rd_int (by decide)) (.inl rfl)
def R_generator : List PD → List PD → Prop := fun ds es => ∃ (ns : List Int) (i : Nat), i ≤ 1000 ∧ ds = [.list (ns.map .int), .int i] ∧ ∃ a s c : Int, es = [.int a, .int s, .int c] ∧ a = max (ns.getD i 0 - 10 ^ 18) 0 % 10 ^ 600 ∧ s = ns.getD i 0 % 2147483647 ∧ c = 1000 * i
theorem ten600 : ((10 : Int) ^ (60 : Int).toNat) ^ (10 : Int).toNat = 10 ^ 600 := Int.pow_mul.symm
theorem pos600 : (0 : Int) < 10 ^ 600 := Int.pow_pos (by decide)
theorem ok_l_generator (T : Tx K mg) : FnOk P w K mg base CX0 2 T.a_l_generator T.d_l_generator P_l_generator (spO K 2 R_generator) := by
  refine fun_okC T.f_l_generator sc_l_generator len_O (fun cdv hkc A outer s H vs Q E hr h => ?_)
  have hkd := kds_of_code hkc
  obtain ⟨F, ds, es, hF, hd, hl, r, k⟩ := h
  obtain ⟨ns, i, hi, rfl, a, s, c, rfl, rfl, rfl, rfl⟩ := r
  refine ⟨_, (pss_cons (ps_set (i := 2) sc_l_generator.nd rfl (by first | exact Or.inl rfl | exact Or.inr rfl) (pe_call (ok_l_cell T) (hr.mono (by decide)) (by rfl) T.m_l_cell T.f_l_cell.kp T.b_l_cell .nil pass0 (pa_cons (pv 0) (pa_cons (pv 1) pa_nil))))
      (pss_one (ps_ret (pe_lst (pa_cons (pe_op op_mod (pe_callTy call_int1 (by rfl) T.z_int (by decide +kernel) (pa_cons (pe_callB (call_max2 rfl) (by rfl) T.z_max (by decide +kernel) (pa_cons (pe_op op_sub (pv 2) (pe_op op_powW pe_int pe_int)) (pa_cons pe_int pa_nil))) pa_nil)) (pe_op op_powW (pe_op op_powW pe_int pe_int) pe_int)) (pa_cons (pe_op op_mod (pe_callTy call_int1 (by rfl) T.z_int (by decide +kernel) (pa_cons (pv 2) pa_nil)) pe_int) (pa_cons (pe_op op_mulX pe_int (pv 1)) pa_nil))))))), run_spO (w := w) hF hd k ?_⟩
  have e6 := ten600
  have p6 := pos600
  refine run_seq1 (run_set (ev_call (ea_cons (ev_var rfl) (ea_cons (ev_var rfl) ea_nil)) ⟨ns, i, rfl, rfl⟩) rfl) ?_
  refine run_retO (eo_lst (ea_cons (ev_mod (ev_toInt (ev_max2 (ev_sub (rd_var rfl) (ev_int2C rd_int rd_int ⟨by decide, by decide +kernel⟩ fun H => .int _).rd).rd rd_int).rd).rd (ev_int2C (ev_int2C rd_int rd_int ⟨by decide, by decide +kernel⟩ fun H => .int _).rd rd_int ⟨by decide, by decide +kernel⟩ fun H => .int _).rd (by rw [e6]; exact p6))
    (ea_cons (ev_mod (ev_toInt (rd_var rfl)).rd rd_int (by decide)) (ea_cons (ev_mul rd_int (rd_var rfl) (mulx_ok (a := 31) (b := 31) (by decide) (nat_lt (by omega) (by omega)) (by decide))) ea_nil))) (by show 3 ≤ 100000; decide)) ?_
  rw [e6]
  rfl
def intIn (b : Int) : PD → Prop := fun d => ∃ r : Int, d = .int r ∧ 0 ≤ r ∧ r < b
def R_random : List PD → (PD → Prop) → Prop := fun ds P => ∃ b : Int, ds = [.int b] ∧ 1 ≤ b ∧ b < 2 ^ 60 ∧ P = intIn b
theorem bits_le {b : Int} (h1 : 1 ≤ b) (h2 : b < 2 ^ 60) : Builtin.Int.intBits b ≤ 60 := by
  have q := PySem.Flt.log2_lt_of (k := 60) (by decide) (nat_lt (n := 60) (by omega) h2)
  unfold Builtin.Int.intBits
  split <;> omega
theorem ok_l_random (T : Tx K mg) : FnOk P w K mg base CX0 2 T.a_l_random T.d_l_random P_l_random (spG K 2 3 R_random) := by
  refine fun_okC T.f_l_random sc_l_random len_G (fun cdv hkc A outer s H vs Q E hr h => ?_)
  have hkd := kds_of_code hkc
  obtain ⟨F, g, n, us, ds, P, e0, hF, hg, hG, hn, hd, hl, r, k⟩ := h
  subst e0
  obtain ⟨b, rfl, h1, h2, rfl⟩ := r
  refine ⟨_, (pss_cons (ps_if (pt_cmpR op_gt (pe_ix (k_ixL (K := K)) (pv 0) pe_int (fun _ _ => rfl)) pe_int (nomark _)) (pss_cons (ps_set (i := 2) sc_l_random.nd rfl (by first | exact Or.inl rfl | exact Or.inr rfl) (pe_op op_mod (pe_callTy call_int1 (by rfl) T.z_int (by decide +kernel) (pa_cons (pe_ix (k_ixL (K := K)) (pv 0) pe_int (fun _ _ => rfl)) pa_nil)) (pv 1)))
      (pss_cons (ps_asg (pe_op op_fdivW (pe_ix (k_ixL (K := K)) (pv 0) pe_int (fun _ _ => rfl)) (pv 1)) (pg_sub (pv 0) pe_int set_list))
      (pss_one (ps_ret (pv 2))))) pss_nil)
      (pss_cons (ps_set (i := 2) sc_l_random.nd rfl (by first | exact Or.inl rfl | exact Or.inr rfl) pe_int)
      (pss_cons (ps_for PassesOwn.never rfl (pi_range1 (by rfl) T.z_range (pa_cons (pe_op op_add pe_int (pe_op op_fdivW (pe_bits (pv 1)) pe_int)) pa_nil)) (pg_name (i := 3) sc_l_random.nd rfl (by first | exact Or.inl rfl | exact Or.inr rfl))
      (pss_cons (ps_asg (pe_op op_add (pe_ix (k_ixL (K := K)) (pv 0) pe_int (fun _ _ => rfl)) pe_int) (pg_sub (pv 0) pe_int set_list))
      (pss_one (ps_set (i := 2) sc_l_random.nd rfl (by first | exact Or.inl rfl | exact Or.inr rfl) (pe_op op_add (pe_op op_mulX (pv 2) pe_int) (pe_call (ok_l_hash T) (hr.mono (by decide)) (by rfl) T.m_l_hash T.f_l_hash.kp T.b_l_hash .nil pass0 (pa_cons (pe_ix (k_ixL (K := K)) (pv 0) pe_int (fun _ _ => rfl)) (pa_cons (pe_ix (k_ixL (K := K)) (pv 0) pe_int (fun _ _ => rfl)) pa_nil))))))))
      (pss_one (ps_ret (pe_op op_mod (pe_callTy call_int1 (by rfl) T.z_int (by decide +kernel) (pa_cons (pv 2) pa_nil)) (pv 1))))))), run_spG (w := w) hF hg hG hd k ?_⟩
  refine run_opn (i := 0) (δ := [.gen false n, .d (.int b), .emp, .emp]) (Nat.zero_lt_succ _) fun a s c ha ha' hs hs' hc hc' => ?_
  show MU.Run K w _ [.own false [.int a, .int s, .int c], .d (.int b), .emp, .emp] _ _ _ _
  refine run_seq1 (run_if (ts_cmp (ev_gt (ev_ixO (sq_own rfl) rd_int (at_nat (j := 0) rfl)).rd rd_int)) (fun g0 => ?_) fun g0 => run_next rfl) ?_
  · refine run_seq1 (run_set (ev_mod (ev_toInt (ev_ixO (sq_own rfl) rd_int (at_nat (j := 0) rfl)).rd).rd (rd_var rfl) (by omega)) rfl) ?_
    refine run_seq1 (run_setitem (j := 0) rfl (ev_div (ev_ixO (sq_own rfl) rd_int (at_nat (j := 0) rfl)).rd (rd_var rfl) (wide_div (b := 60) (by omega) (nat_lt (by omega) h2) (by decide) (by decide))) ev_int rfl rfl) ?_
    refine run_ret (ev_var rfl) ⟨.inr ⟨a / b, s, c, rfl, Int.ediv_nonneg ha (by omega), Int.lt_of_le_of_lt (Int.ediv_le_self b ha) ha', hs, hs', hc, by omega⟩, .inl ⟨_, rfl, _, rfl, Int.emod_nonneg _ (by omega), Int.emod_lt_of_pos _ (by omega)⟩⟩
  refine run_seq1 (run_set ev_int rfl) ?_
  have hb := bits_le h1 h2
  have hn' : n + 3 ≤ 1000000000000 := hn
  refine run_seq (mid := fun δ' => ∃ (c' dr : Int) (z : Slot), δ' = [.own false [.int a, .int s, .int c'], .d (.int b), .d (.int dr), z] ∧ 0 ≤ c' ∧ c' ≤ n + 3 ∧ 0 ≤ dr)
    (run_for (it_rng1 (ev_add rd_int (ev_div (ev_bits (rd_var rfl)).rd rd_int (wide_div (b := 6) (by decide) (by decide) (by decide) (by decide))).rd).rd (by omega) (by omega))
      (fun i δ' => ∃ (dr : Int) (z : Slot), δ' = [.own false [.int a, .int s, .int (c + i)], .d (.int b), .d (.int dr), z] ∧ 0 ≤ dr ∧ dr < (2147483648 : Int) ^ i) ⟨0, _, by rw [Int.natCast_zero, Int.add_zero]; rfl, by decide, by decide⟩ ?_ ?_) ?_
  · rintro i x δ' hk ⟨dr, z, rfl, d0, d1⟩
    obtain ⟨hk, rfl⟩ := rng_at hk
    have i3 : i < 3 := by omega
    have dX : dr < (2147483648 : Int) ^ 3 := by
      refine Int.lt_of_lt_of_le d1 ?_
      have : i = 0 ∨ i = 1 ∨ i = 2 := by omega
      rcases this with rfl | rfl | rfl <;> decide
    have hr : 0 ≤ hashF s (c + i + 1) ∧ hashF s (c + i + 1) < 2147483587 := ⟨Int.emod_nonneg _ (by decide), Int.emod_lt_of_pos _ (by decide)⟩
    refine ⟨_, _, tg_name, run_seq1 (run_setitem (j := 2) rfl (ev_add (ev_ixO (sq_own rfl) rd_int (at_nat (j := 2) rfl)).rd rd_int) ev_int rfl rfl) ?_⟩
    refine run_set (ev_add (ev_mul (rd_var rfl) rd_int (mulx_ok (a := 93) (b := 31) (nat_lt d0 (Int.lt_of_lt_of_le dX (by decide))) (by decide) (by decide))).rd (ev_call (ea_cons (ev_ixO (sq_own rfl) rd_int (at_nat (j := 1) rfl)) (ea_cons (ev_ixO (sq_own rfl) rd_int (at_nat (j := 2) rfl)) ea_nil)) ⟨s, c + i + 1, hs, hs', by omega, by omega, rfl, rfl⟩).rd) ⟨dr * 2147483587 + hashF s (c + i + 1), .d (.int (0 + i)), ?_, by omega, ?_⟩
    · rw [show c + ((i + 1 : Nat) : Int) = c + i + 1 by omega]
      rfl
    · rw [Int.pow_succ]
      omega
  · rintro δ' ⟨dr, z, rfl, d0, _⟩
    refine ⟨_, dr, z, rfl, by omega, ?_, d0⟩
    rw [rng_len]
    omega
  · rintro δ' ⟨c', dr, z, rfl, c0, c1, d0⟩
    exact run_ret (ev_mod (ev_toInt (rd_var rfl)).rd (rd_var rfl) (by omega)) ⟨.inr ⟨a, s, c', rfl, ha, ha', hs, hs', c0, c1⟩, .inl ⟨_, rfl, _, rfl, Int.emod_nonneg _ (by omega), Int.emod_lt_of_pos _ (by omega)⟩⟩
section
variable {δ : List Slot} {te : TE} {E : XK} {i : Nat} {b : Bool} {n m : Int}
theorem eg_random (h : EvD K w te (δ.set i (.gen b n)) (.int m)) (h1 : 1 ≤ m) (h2 : m < 2 ^ 60) (hn : n + 3 ≤ gmax) : EvG K w (tCall (spG K 2 3 R_random) [] E (tCons (tVar i) (tCons te tNil))) δ i b n (n + 3) (intIn m) :=
  eg_call (ega_pure (ea_cons h ea_nil)) hn fun ds e => by
    subst e
    exact ⟨rfl, m, rfl, h1, h2, rfl⟩
end
def chartLt (m : Nat) : PD → Prop := fun d => ∃ t, d = chartD t ∧ Chart t ∧ t.length < m
def R_random_chart : List PD → (PD → Prop) → Prop := fun ds P => ∃ m : Nat, ds = [.int m] ∧ 1 ≤ m ∧ m ≤ 48 ∧ P = chartLt m
theorem chart_more {t : List Nat} (c : Chart t) {p : Nat} (h : p ≤ t.length) : Chart (t ++ [p]) := fun k q e => by
  by_cases z : k < t.length
  · rw [List.getElem?_append_left z] at e
    exact c k q e
  · rw [List.getElem?_append_right (by omega)] at e
    have l := (List.getElem?_eq_some_iff.mp e).1
    have : k = t.length := by
      rw [List.length_singleton] at l
      omega
    subst this
    rw [Nat.sub_self] at e
    cases e
    exact h
theorem chartL_more (t : List Nat) (p : Nat) : chartL (t ++ [p]) = chartL t ++ [PyData.int (p : Int)] := by simp [chartL]
theorem ok_l_random_chart (T : Tx K mg) : FnOk P w K mg base CX0 3 T.a_l_random_chart T.d_l_random_chart P_l_random_chart (spG K 2 300 R_random_chart) := by
  refine fun_okC T.f_l_random_chart sc_l_random_chart len_G (fun cdv hkc A outer s H vs Q E hr h => ?_)
  have hkd := kds_of_code hkc
  obtain ⟨F, g, n, us, ds, P, e0, hF, hg, hG, hn, hd, hl, r, k⟩ := h
  subst e0
  obtain ⟨m, rfl, h1, h2, rfl⟩ := r
  refine ⟨_, (pss_cons (ps_set (i := 2) sc_l_random_chart.nd rfl (by first | exact Or.inl rfl | exact Or.inr rfl) (pe_op op_add pe_int (pe_call (ok_l_random T) (hr.mono (by decide)) (by rfl) T.m_l_random T.f_l_random.kp T.b_l_random .nil pass0 (pa_cons (pv 0) (pa_cons (pv 1) pa_nil)))))
      (pss_cons (ps_set (i := 3) sc_l_random_chart.nd rfl (by first | exact Or.inl rfl | exact Or.inr rfl) (pe_call (ok_l_random T) (hr.mono (by decide)) (by rfl) T.m_l_random T.f_l_random.kp T.b_l_random .nil pass0 (pa_cons (pv 0) (pa_cons pe_int pa_nil))))
      (pss_cons (ps_set (i := 4) sc_l_random_chart.nd rfl (by first | exact Or.inl rfl | exact Or.inr rfl) (pe_lst (pa_cons pe_non pa_nil)))
      (pss_cons (ps_for PassesOwn.never rfl (pi_range2 (by rfl) T.z_range (pa_cons pe_int (pa_cons (pv 2) pa_nil))) (pg_name (i := 5) sc_l_random_chart.nd rfl (by first | exact Or.inl rfl | exact Or.inr rfl))
      (pss_cons (ps_set (i := 6) sc_l_random_chart.nd rfl (by first | exact Or.inl rfl | exact Or.inr rfl) (pe_lst (pa_cons (pe_op op_sub (pv 5) pe_int) (pa_cons pe_int (pa_cons (pe_call (ok_l_random T) (hr.mono (by decide)) (by rfl) T.m_l_random T.f_l_random.kp T.b_l_random .nil pass0 (pa_cons (pv 0) (pa_cons (pv 5) pa_nil))) (pa_cons (pe_callB (call_max2 rfl) (by rfl) T.z_max (by decide +kernel) (pa_cons pe_int (pa_cons (pe_op op_sub (pe_op op_sub (pv 5) pe_int) (pe_call (ok_l_random T) (hr.mono (by decide)) (by rfl) T.m_l_random T.f_l_random.kp T.b_l_random .nil pass0 (pa_cons (pv 0) (pa_cons pe_int pa_nil)))) pa_nil))) (pa_cons (pe_op op_fdivW (pv 5) pe_int) pa_nil)))))))
      (pss_one (ps_expr (pe_bm PySem.F.plainAttrs_list PySem.F.slot_list_append PySem.F.type_list_append mt_append (pv 4) (pa_cons (pe_callB (call_min2 rfl) (by rfl) T.z_min (by decide +kernel) (pa_cons (pe_op op_sub (pv 5) pe_int) (pa_cons (pe_ix (k_ixL (K := K)) (pv 6) (pv 3) (fun _ _ => rfl)) pa_nil))) pa_nil))))))
      (pss_one (ps_ret (pe_callTy (k_tuple (K := K)) (by rfl) T.z_tuple (by decide +kernel) (pa_cons (pv 4) pa_nil)))))))), run_spG (w := w) hF hg hG hd k ?_⟩
  have hn' : n + 300 ≤ 1000000000000 := hn
  refine run_seq (mid := fun δ' => ∃ sz : Nat, 1 ≤ sz ∧ sz ≤ m ∧ δ' = [.gen false (n + 3), .d (.int m), .d (.int sz), .emp, .emp, .emp, .emp]) (run_setG (i := 0) (δ := [.gen false n, .d (.int m), .emp, .emp, .emp, .emp, .emp]) (n2 := n + 3) (P := fun d => ∃ sz : Nat, 1 ≤ sz ∧ sz ≤ m ∧ d = .int sz) (eg_int2 (eg_pure ev_int) (eg_random (m := m) (ev_var rfl) (by omega) (by omega) (show n + 3 ≤ 1000000000000 by omega)) ?_) (Nat.zero_lt_succ _) ?_) ?_
  · rintro x y rfl ⟨r, rfl, r0, r1⟩
    exact ⟨_, _, .int (1 + r), rfl, rfl, ⟨(1 + r).toNat, by omega, by omega, by rw [Int.toNat_of_nonneg (by omega)]⟩, fun H => .int _⟩
  · rintro d ⟨sz, s1, s2, rfl⟩
    exact ⟨sz, s1, s2, rfl⟩
  rintro δ' ⟨sz, s1, s2, rfl⟩
  refine run_seq (mid := fun δ' => ∃ kd : Nat, kd < 5 ∧ δ' = [.gen false (n + 6), .d (.int m), .d (.int sz), .d (.int kd), .emp, .emp, .emp]) (run_setG (i := 0) (δ := [.gen false (n + 3), .d (.int m), .d (.int sz), .emp, .emp, .emp, .emp]) (eg_random (m := 5) ev_int (by decide) (by decide) (show n + 3 + 3 ≤ 1000000000000 by omega)) (Nat.zero_lt_succ _) ?_) ?_
  · rintro d ⟨r, rfl, r0, r1⟩
    refine ⟨r.toNat, by omega, ?_⟩
    rw [Int.toNat_of_nonneg r0, show n + 6 = n + 3 + 3 by omega]
    rfl
  rintro δ' ⟨kd, hk5, rfl⟩
  refine run_seq1 (run_setO (eo_lst (ea_cons ev_non ea_nil) (by show 1 ≤ 100000; decide)) rfl) ?_
  refine run_seq (mid := fun δ' => ∃ (t : List Nat) (x5 x6 : Slot) (n' : Int), n' ≤ n + 300 ∧ Chart t ∧ t.length = sz - 1 ∧ δ' = [.gen false n', .d (.int m), .d (.int sz), .d (.int kd), .own true (chartL t), x5, x6])
    (run_for (it_rng2 rd_int (rd_var rfl) (by omega)) (fun i δ' => ∃ (t : List Nat) (x5 x6 : Slot), Chart t ∧ t.length = i ∧ δ' = [.gen false (n + 6 + 6 * i), .d (.int m), .d (.int sz), .d (.int kd), .own true (chartL t), x5, x6]) ⟨[], .emp, .emp, fun k p e => by simp at e, rfl, by rw [Int.natCast_zero, Int.mul_zero, Int.add_zero]; rfl⟩ ?_ ?_) ?_
  · rintro i x δ' hx ⟨t, x5, x6, ct, lt, rfl⟩
    obtain ⟨hi, rfl⟩ := rng_at hx
    have e1 : (1 : Int) + (i : Nat) = ((i + 1 : Nat) : Int) := by omega
    rw [e1]
    refine ⟨_, _, tg_name, run_seq (mid := fun δ' => ∃ l : List Int, l.length = 5 ∧ (∀ z ∈ l, 0 ≤ z) ∧ δ' = [.gen false (n + 6 + 6 * i + 6), .d (.int m), .d (.int sz), .d (.int kd), .own true (chartL t), .d (.int ((i + 1 : Nat) : Int)), .d (.list (l.map .int))])
      (run_setG (i := 0) (δ := [.gen false (n + 6 + 6 * i), .d (.int m), .d (.int sz), .d (.int kd), .own true (chartL t), .d (.int ((i + 1 : Nat) : Int)), x6]) (n2 := n + 6 + 6 * i + 3 + 3) (P := fun d => ∃ l : List Int, l.length = 5 ∧ (∀ z ∈ l, 0 ≤ z) ∧ d = .list (l.map .int))
        (eg_lst (ega_cons (eg_pure (ev_sub (rd_var rfl) rd_int)) (ega_cons (eg_pure ev_int) (ega_cons (eg_random (m := ((i + 1 : Nat) : Int)) (ev_var rfl) (by omega) (by omega) (show n + 6 + 6 * (i : Int) + 3 ≤ 1000000000000 by omega))
          (ega_cons (eg_cb (P := fun d => ∃ r : Int, d = .int r ∧ 0 ≤ r) (ega_cons (eg_pure ev_int) (ega_cons (eg_int2 (P := fun d => ∃ r, d = .int r) (eg_pure (ev_sub (rd_var rfl) rd_int)) (eg_random (m := 3) ev_int (by decide) (by decide) (show n + 6 + 6 * (i : Int) + 3 + 3 ≤ 1000000000000 by omega)) ?_) ega_nil)) ?_) (ega_cons (eg_pure (ev_div (rd_var rfl) rd_int (wide_div (b := 6) (by decide) (by decide) (by decide) (by decide)))) ega_nil))))) ?_) (Nat.zero_lt_succ _) ?_) ?_⟩
    · rintro x y rfl ⟨r, rfl, _, _⟩
      exact ⟨_, _, _, rfl, rfl, ⟨_, rfl⟩, fun H => .int _⟩
    · rintro ds ⟨d1, r1, rfl, rfl, d2, r2, rfl, ⟨z, rfl⟩, rfl⟩
      refine ⟨.int (max 0 z), _, ⟨_, rfl, by omega⟩, fun H => .int _, fun H vs h Q q => ?_⟩
      obtain ⟨v, u, rfl, h1, h2⟩ := da2 h
      cases h1
      cases h2
      refine ⟨0, z, rfl, ?_⟩
      rw [show (if z > 0 then z else 0) = max 0 z by split <;> omega]
      exact q
    · rintro ds ⟨d1, r1, rfl, rfl, d2, r2, rfl, rfl, d3, r3, rfl, ⟨z3, rfl, b3, _⟩, d4, r4, rfl, ⟨z4, rfl, b4⟩, d5, r5, rfl, rfl, rfl⟩
      refine ⟨by simp, [_, 0, z3, z4, _], rfl, fun z hz => ?_, rfl⟩
      simp only [List.mem_cons, List.not_mem_nil, or_false] at hz
      rcases hz with rfl | rfl | rfl | rfl | rfl <;> omega
    · rintro d ⟨l, l5, l0, rfl⟩
      refine ⟨l, l5, l0, ?_⟩
      rw [show n + 6 + 6 * (i : Int) + 6 = n + 6 + 6 * (i : Int) + 3 + 3 by omega]
      rfl
    · rintro δ' ⟨l, l5, l0, rfl⟩
      have ha : atI (l.map PyData.int) (kd : Int) = some (.int (l[kd]'(by omega))) := at_nat (by rw [List.getElem?_map, List.getElem?_eq_getElem (by omega)]; rfl)
      have h0 := l0 _ (List.getElem_mem (by omega : kd < l.length))
      refine run_append rfl (ev_min2 (ev_sub (rd_var rfl) rd_int).rd (ev_ixL (ev_var rfl) (ev_var rfl) ha).rd) (by rw [chart_len]; omega) ⟨t ++ [(min (((i + 1 : Nat) : Int) - 1) l[kd]).toNat], .d (.int ((i + 1 : Nat) : Int)), .d (.list (l.map .int)), chart_more ct (by omega), by rw [List.length_append, List.length_singleton, lt], ?_⟩
      rw [show n + 6 + 6 * ((i + 1 : Nat) : Int) = n + 6 + 6 * (i : Int) + 6 by omega]
      have e2 : (((min (((i + 1 : Nat) : Int) - 1) l[kd]).toNat : Nat) : Int) = min (((i + 1 : Nat) : Int) - 1) l[kd] := Int.toNat_of_nonneg (by omega)
      rw [chartL_more, e2]
      rfl
  · rintro δ' ⟨t, x5, x6, ct, lt, rfl⟩
    rw [rng_len] at lt ⊢
    exact ⟨t, x5, x6, _, by omega, ct, by omega, rfl⟩
  · rintro δ' ⟨t, x5, x6, n', hn2, ct, lt, rfl⟩
    exact run_ret (ev_tupleOf (sq_own rfl)) ⟨.inl ⟨_, rfl, hn2⟩, .inl ⟨_, rfl, t, rfl, ct, by omega⟩⟩
end
section
variable {P : Program} {w : World} {K : PySem.W.Frag} {mg : Str → Option Value} {base : Heap}
def R_is_person : List PD → PD → Prop := fun ds d => ∃ n : Nat, ds = [.int n] ∧ d = .bool true
theorem ok_is_person (T : Tx K mg) : FnOk P w K mg base CX0 2 T.a_is_person T.d_is_person P_is_person (spS K 1 R_is_person) := by
  refine fun_okC T.f_is_person sc_is_person len_S (fun cdv hkc A outer s H vs Q E hr h => ?_)
  have hkd := kds_of_code hkc
  obtain ⟨F, ds, d, hF, hd, hl, r, k⟩ := h
  obtain ⟨n, rfl, rfl⟩ := r
  refine ⟨_, (pss_one (ps_ret (pe_and (pe_call (ok_is_whole T) (hr.mono (by decide)) (by rfl) T.m_is_whole T.f_is_whole.kp T.b_is_whole .nil pass0 (pa_cons (pv 0) pa_nil)) (pe_one (pe_cmpR op_ge (pv 0) pe_int (nomark _)))))), run_spS (w := w) hF hd k ?_⟩
  refine run_ret (ev_andV (ev_call (ea_cons (ev_var rfl) ea_nil) ⟨_, rfl, rfl⟩) fun _ => ev_ge (rd_var rfl) rd_int) (.inl ?_)
  rw [decide_eq_true (Int.natCast_nonneg n)]
  rfl
def R_below : List PD → PD → Prop := fun ds d => ∃ n m : Nat, m < n ∧ ds = [.int n, .int m] ∧ d = .bool true
theorem ok_may_stand_below (T : Tx K mg) : FnOk P w K mg base CX0 1 T.a_may_stand_below T.d_may_stand_below P_may_stand_below (spS K 2 R_below) := by
  refine fun_okC T.f_may_stand_below sc_may_stand_below len_S (fun cdv hkc A outer s H vs Q E hr h => ?_)
  have hkd := kds_of_code hkc
  obtain ⟨F, ds, d, hF, hd, hl, r, k⟩ := h
  obtain ⟨n, m, l, rfl, rfl⟩ := r
  refine ⟨_, (pss_one (ps_ret (pe_and (pe_cmpR op_notN (pv 1) pe_non (nomark _)) (pe_one (pe_cmpR op_lt (pv 1) (pv 0) (nomark _)))))), run_spS (w := w) hF hd k ?_⟩
  refine run_ret (ev_andV (ev_notN (rd_var rfl)) fun _ => ev_lt (rd_var rfl) (rd_var rfl)) (.inl ?_)
  rw [decide_eq_true (by omega)]
  rfl
def R_arr : List PD → PD → Prop := fun ds d => ∃ t r, Chart t ∧ t.length < 1000 ∧ Arr t r ∧ ds = [chartD t, rowD r] ∧ d = .none
def keyC (c : Option Nat) : Option Key := c.map fun n => .inl (n : Int)
theorem key_nk (c : Option Nat) : nkOf (cellD c) = some (keyC c) := by cases c <;> rfl
theorem key_inj {a b : Option Nat} (h : keyC a = keyC b) : a = b := by
  cases a with
  | none => cases b with
    | none => rfl
    | some m => cases h
  | some n => cases b with
    | none => cases h
    | some m =>
      have z : (Sum.inl (n : Int) : Key) = Sum.inl (m : Int) := Option.some.inj h
      have z2 : (n : Int) = m := Sum.inl.inj z
      rw [show n = m by omega]
theorem ok_check_arrangement (T : Tx K mg) : FnOk P w K mg base CX0 5 T.a_check_arrangement T.d_check_arrangement P_check_arrangement (spS K 2 R_arr) := by
  refine fun_okC T.f_check_arrangement sc_check_arrangement len_S (fun cdv hkc A outer s H vs Q E hr h => ?_)
  have hkd := kds_of_code hkc
  obtain ⟨F, ds, d, hF, hd, hl, r, k⟩ := h
  obtain ⟨t, r, ct, lt, ar, rfl, rfl⟩ := r
  refine ⟨_, (pss_cons (ps_expr (pe_call (ok_require_chart T) (hr.mono (by decide)) (by rfl) T.m_require_chart T.f_require_chart.kp T.b_require_chart .nil pass0 (pa_cons (pv 0) pa_nil)))
      (pss_cons (ps_if (PW.pt (pw_or (pt_not (pt_val (pe_callB (k_isi (K := K)) (by rfl) T.z_isinstance (by decide +kernel) (pa_cons (pv 1) (pa_cons (pe_bltn (v := .ty "tuple") (by rfl) T.z_tuple (by decide +kernel) rfl) pa_nil))))) (pw_or1 (pt_cmpR (k_ne (K := K) hr.units) (pe_callB (k_len (K := K)) (by rfl) T.z_len (by decide +kernel) (pa_cons (pv 1) pa_nil)) (pe_callB (k_len (K := K)) (by rfl) T.z_len (by decide +kernel) (pa_cons (pv 0) pa_nil)) (nomark _))))) (pss_one (ps_ret (pe_tupN (pa_cons pe_str pa_nil)))) pss_nil)
      (pss_cons (ps_for PassesOwn.never rfl (pi_enumT (by rfl) T.z_enumerate (pa_cons (pv 1) pa_nil)) (pg_tup rfl (pgs_cons (pg_name (i := 2) sc_check_arrangement.nd rfl (by first | exact Or.inl rfl | exact Or.inr rfl)) (pgs_cons (pg_name (i := 3) sc_check_arrangement.nd rfl (by first | exact Or.inl rfl | exact Or.inr rfl)) pgs_nil)))
      (pss_one (ps_if (PW.pt (pw_and (pt_cmpR op_notN (pv 3) pe_non (nomark _)) (pw_and1 (pt_not (pt_val (pe_call (ok_is_person T) (hr.mono (by decide)) (by rfl) T.m_is_person T.f_is_person.kp T.b_is_person .nil pass0 (pa_cons (pv 3) pa_nil))))))) (pss_one (ps_ret (pe_tupN (pa_cons pe_str (pa_cons (pv 2) pa_nil))))) pss_nil)))
      (pss_cons (ps_set (i := 4) sc_check_arrangement.nd rfl (by first | exact Or.inl rfl | exact Or.inr rfl) (pe_callTy0 cr_set0N (by rfl) T.z_set (by decide +kernel)))
      (pss_cons (ps_for PassesOwn.never rfl (pi_enumT (by rfl) T.z_enumerate (pa_cons (pv 1) pa_nil)) (pg_tup rfl (pgs_cons (pg_name (i := 2) sc_check_arrangement.nd rfl (by first | exact Or.inl rfl | exact Or.inr rfl)) (pgs_cons (pg_name (i := 3) sc_check_arrangement.nd rfl (by first | exact Or.inl rfl | exact Or.inr rfl)) pgs_nil)))
      (pss_cons (ps_if (PW.pt (pw_and (pt_cmpR op_notN (pv 3) pe_non (nomark _)) (pw_and1 (pt_cmpR or_sinN (pv 3) (pv 4) (by rfl))))) (pss_one (ps_ret (pe_tupN (pa_cons pe_str (pa_cons (pv 2) pa_nil))))) pss_nil)
      (pss_one (ps_expr (pe_saddN (pv 4) (pa_cons (pv 3) pa_nil))))))
      (pss_cons (ps_for PassesOwn.never rfl (pi_range2 (by rfl) T.z_range (pa_cons pe_int (pa_cons (pe_callB (k_len (K := K)) (by rfl) T.z_len (by decide +kernel) (pa_cons (pv 0) pa_nil)) pa_nil))) (pg_name (i := 2) sc_check_arrangement.nd rfl (by first | exact Or.inl rfl | exact Or.inr rfl))
      (pss_one (ps_if (PW.pt (pw_and (pt_cmpR op_notN (pe_ix (k_ixT (K := K)) (pv 1) (pv 2) (fun _ _ => rfl)) pe_non (nomark _)) (pw_and1 (pt_not (pt_val (pe_call (ok_may_stand_below T) (hr.mono (by decide)) (by rfl) T.m_may_stand_below T.f_may_stand_below.kp T.b_may_stand_below .nil pass0 (pa_cons (pe_ix (k_ixT (K := K)) (pv 1) (pv 2) (fun _ _ => rfl)) (pa_cons (pe_ix (k_ixT (K := K)) (pv 1) (pe_ix (k_ixT (K := K)) (pv 0) (pv 2) (fun _ _ => rfl)) (fun _ _ => rfl)) pa_nil)))))))) (pss_one (ps_ret (pe_tupN (pa_cons pe_str (pa_cons (pv 2) pa_nil))))) pss_nil)))
      (pss_one (ps_ret pe_non)))))))), run_spS (w := w) hF hd k ?_⟩
  have l1 : (rowL r).length = t.length + 1 := by rw [row_len, ar.len]
  refine run_seq1 (run_drop (ev_call (ea_cons (ev_var rfl) ea_nil) ⟨t, ct, by omega, rfl, rfl⟩) rfl) ?_
  refine run_seq1 (run_no (ts_or (ts_not (ts_val (ev_isi (rd_var rfl) kit_tup))) fun _ => ts_cmp (ev_ne (ev_len (rd_var rfl)).rd (ev_len (rd_var rfl)).rd rfl rfl)) ?_ (run_next rfl)) ?_
  · rw [l1, chart_len]
    simp [isTupD, rowD, PyData.eqv]
  refine run_seq (mid := fun δ' => ∃ x y, δ' = [.d (chartD t), .d (rowD r), x, y, .emp]) (run_for (it_enumT (ev_var rfl)) (fun _ δ' => ∃ x y, δ' = [.d (chartD t), .d (rowD r), x, y, .emp]) ⟨_, _, rfl⟩ ?_ fun _ z => z) ?_
  · rintro k x δ' hk ⟨x1, y1, rfl⟩
    obtain ⟨d, hd, rfl⟩ := enum_at hk
    obtain ⟨c, hc, rfl⟩ := row_of hd
    refine ⟨_, _, tg_tup (tgs_cons tg_name (tgs_cons tg_name tgs_nil)), ?_⟩
    cases c with
    | none => exact run_no (b := false && false) (ts_and ((ts_cmp (ev_notN (rd_var rfl))).is rfl) fun z => nF z) rfl (run_next ⟨_, _, rfl⟩)
    | some n => exact run_no (ts_and (ts_cmp (ev_notN (rd_var rfl))) fun _ => ts_not (ts_val (ev_call (ea_cons (ev_var rfl) ea_nil) ⟨n, rfl, rfl⟩))) rfl (run_next ⟨_, _, rfl⟩)
  rintro δ' ⟨x2, y2, rfl⟩
  refine run_seq1 (run_set0N rfl) ?_
  refine run_seq (mid := fun δ' => ∃ x y z, δ' = [.d (chartD t), .d (rowD r), x, y, z]) (run_for (it_enumT (ev_var rfl)) (fun i δ' => ∃ x y S n, n ≤ i ∧ (∀ c : Option Nat, S (keyC c) = true → ∃ j, j < i ∧ r[j]? = some c) ∧ δ' = [.d (chartD t), .d (rowD r), x, y, setN w S n]) ⟨_, _, _, _, Nat.le_refl _, fun c z => nF z, rfl⟩ ?_ fun δ' ⟨x, y, S, n, _, _, e⟩ => ⟨x, y, _, e⟩) ?_
  · rintro k x δ' hk ⟨x1, y1, S, n, ln, hS, rfl⟩
    obtain ⟨d, hd, rfl⟩ := enum_at hk
    obtain ⟨c, hc, rfl⟩ := row_of hd
    have lk : k < t.length + 1 := by rw [← ar.len]; exact (List.getElem?_eq_some_iff.mp hc).1
    refine ⟨_, _, tg_tup (tgs_cons tg_name (tgs_cons tg_name tgs_nil)), ?_⟩
    refine run_seq1 (run_no (b := c.isSome && S (keyC c)) (ts_and ((ts_cmp (ev_notN (rd_var rfl))).is (by rw [cell_non, Bool.not_not])) fun _ => ts_cmp (ev_sinN rfl (rd_var rfl) (key_nk c))) ?_ (run_next rfl)) ?_
    · cases c with
      | none => rfl
      | some n =>
        cases q : S (keyC (some n)) with
        | false => rfl
        | true =>
          obtain ⟨j, lj, e⟩ := hS _ q
          have := ar.inj j k n e hc
          omega
    · refine run_saddN rfl (ev_var rfl) (key_nk c) (by omega) ⟨_, _, _, _, ?_, fun c' q => ?_, rfl⟩
      · split <;> omega
      · rcases Bool.or_eq_true _ _ ▸ q with z | z
        · obtain ⟨j, lj, e⟩ := hS _ z
          exact ⟨j, by omega, e⟩
        · exact ⟨k, Nat.lt_succ_self _, by rw [hc, key_inj (of_decide_eq_true z)]⟩
  rintro δ' ⟨x3, y3, z3, rfl⟩
  have l0 : ((chartL t).length : Int) = t.length + 1 := by rw [chart_len]; rfl
  refine run_seq (mid := fun δ' => True) (run_for (it_rng2 rd_int (ev_len (rd_var rfl)).rd (by rw [l0]; omega)) (fun _ δ' => ∃ x y z, δ' = [.d (chartD t), .d (rowD r), x, y, z]) ⟨_, _, _, rfl⟩ ?_ fun _ _ => trivial) fun _ _ => run_ret ev_non (.inl rfl)
  · rintro k x δ' hk ⟨x1, y1, z1, rfl⟩
    obtain ⟨hk, rfl⟩ := rng_at hk
    have hk : k < t.length := by
      have c1 : (chartL t).length = t.length + 1 := chart_len t
      have c2 : (PyData.none :: List.map (fun n : Nat => PyData.int n) t).length = t.length + 1 := chart_len t
      omega
    obtain ⟨p, hp⟩ : ∃ p, t[k]? = some p := ⟨_, List.getElem?_eq_getElem (by omega)⟩
    have lp := ct k p hp
    have ek : (1 : Int) + (k : Nat) = ((k + 1 : Nat) : Int) := by omega
    rw [ek]
    obtain ⟨c, hc⟩ := row_has (r := r) (k := k + 1) (by rw [ar.len]; omega)
    refine ⟨_, _, tg_name, ?_⟩
    cases c with
    | none => exact run_no (b := false && false) (ts_and ((ts_cmp (ev_notN (ev_ixT (ev_var rfl) (ev_var rfl) (at_nat (row_at hc))).rd)).is rfl) fun z => nF z) rfl (run_next ⟨_, _, _, rfl⟩)
    | some n =>
      obtain ⟨m, hm, lm⟩ := ar.ord k p n hp hc
      exact run_no (ts_and (ts_cmp (ev_notN (ev_ixT (ev_var rfl) (ev_var rfl) (at_nat (row_at hc))).rd)) fun _ => ts_not (ts_val (ev_call (ea_cons (ev_ixT (ev_var rfl) (ev_var rfl) (at_nat (row_at hc))) (ea_cons (ev_ixT (ev_var rfl) (ev_ixT (ev_var rfl) (ev_var rfl) (at_nat (chart_at hp))) (at_nat (row_at hm))) ea_nil)) ⟨n, m, lm, rfl, rfl⟩))) rfl (run_next ⟨_, _, _, rfl⟩)
theorem ok_require_arrangement (T : Tx K mg) : FnOk P w K mg base CX0 6 T.a_require_arrangement T.d_require_arrangement P_require_arrangement (spS K 2 R_arr) := by
  refine fun_okC T.f_require_arrangement sc_require_arrangement len_S (fun cdv hkc A outer s H vs Q E hr h => ?_)
  have hkd := kds_of_code hkc
  obtain ⟨F, ds, d, hF, hd, hl, r, k⟩ := h
  obtain ⟨t, r, ct, lt, ar, rfl, rfl⟩ := r
  refine ⟨_, (pss_cons (ps_set (i := 2) sc_require_arrangement.nd rfl (by first | exact Or.inl rfl | exact Or.inr rfl) (pe_call (ok_check_arrangement T) (hr.mono (by decide)) (by rfl) T.m_check_arrangement T.f_check_arrangement.kp T.b_check_arrangement .nil pass0 (pa_cons (pv 0) (pa_cons (pv 1) pa_nil))))
      (pss_one (ps_if (pt_cmpR op_notN (pv 2) pe_non (nomark _)) (pss_one ps_never) pss_nil))), run_spS (w := w) hF hd k ?_⟩
  exact run_seq1 (run_set (ev_call (ea_cons (ev_var rfl) (ea_cons (ev_var rfl) ea_nil)) ⟨t, r, ct, lt, ar, rfl, rfl⟩) rfl) (run_no (ts_cmp (ev_notN (rd_var rfl))) rfl (run_next rfl))
end
section
variable {P : Program} {w : World} {K : PySem.W.Frag} {mg : Str → Option Value} {base : Heap}
def R_post_of : List PD → PD → Prop := fun ds d => ∃ t r, ∃ n : Nat, Chart t ∧ t.length < 1000 ∧ Arr t r ∧ ds = [chartD t, rowD r, .int n] ∧ d = posD r n
theorem ok_post_of (T : Tx K mg) : FnOk P w K mg base CX0 7 T.a_post_of T.d_post_of P_post_of (spS K 3 R_post_of) := by
  refine fun_okC T.f_post_of sc_post_of len_S (fun cdv hkc A outer s H vs Q E hr h => ?_)
  have hkd := kds_of_code hkc
  obtain ⟨F, ds, d, hF, hd, hl, r, k⟩ := h
  have kt := T.kt
  obtain ⟨t, r, n, ct, lt, ar, rfl, rfl⟩ := r
  refine ⟨_, (pss_cons (ps_expr (pe_call (ok_require_arrangement T) (hr.mono (by decide)) (by rfl) T.m_require_arrangement T.f_require_arrangement.kp T.b_require_arrangement .nil pass0 (pa_cons (pv 0) (pa_cons (pv 1) pa_nil))))
      (pss_cons (ps_if (pt_not (pt_val (pe_call (ok_is_person T) (hr.mono (by decide)) (by rfl) T.m_is_person T.f_is_person.kp T.b_is_person .nil pass0 (pa_cons (pv 2) pa_nil)))) (pss_one ps_never) pss_nil)
      (pss_cons (ps_if (pt_cmpR (k_notin (K := K)) (pv 2) (pv 1) (by rfl)) (pss_one (ps_ret pe_non)) pss_nil)
      (pss_one (ps_ret (pe_tindex (pv 1) (pa_cons (pv 2) pa_nil))))))), run_spS (w := w) hF hd k ?_⟩
  refine run_seq1 (run_drop (ev_call (ea_cons (ev_var rfl) (ea_cons (ev_var rfl) ea_nil)) ⟨t, r, ct, lt, ar, rfl, rfl⟩) rfl) ?_
  refine run_seq1 (run_no (ts_not (ts_val (ev_call (ea_cons (ev_var rfl) ea_nil) ⟨n, rfl, rfl⟩))) rfl (run_next rfl)) ?_
  have mem := any_row r n
  by_cases c : some n ∈ r
  · refine run_seq1 (run_no (ts_cmp (ev_notin (rd_var rfl) (rd_var rfl) rfl (row_flat r))) (by rw [mem, decide_eq_true c]; rfl) (run_next rfl)) ?_
    obtain ⟨j, h1, h2⟩ := idx_at c
    refine run_ret ((ev_tindex kt (ev_var rfl) (rd_var rfl) rfl (row_flat r) (row_at h1) (by rw [eqv_cell]; exact decide_eq_true rfl) fun m z' l e => ?_).is (pos_at h1 h2).symm) (.inl rfl)
    obtain ⟨c', e', rfl⟩ := row_of e
    rw [eqv_cell]
    exact decide_eq_false fun q => h2 m l (by rw [e', q])
  · exact run_seq (mid := no1) (run_yes (ts_cmp (ev_notin (rd_var rfl) (rd_var rfl) rfl (row_flat r))) (by rw [mem, decide_eq_false c]; rfl) (run_ret ev_non (.inl (by rw [pos_no c])))) fun _ z => z.elim
def R_is_open : List PD → PD → Prop := fun ds d => ∃ t r, ∃ k : Nat, Chart t ∧ Arr t r ∧ k < t.length + 1 ∧ ds = [chartD t, rowD r, .int k] ∧ d = .bool (opn t r k)
theorem ok_is_open (T : Tx K mg) : FnOk P w K mg base CX0 1 T.a_is_open T.d_is_open P_is_open (spS K 3 R_is_open) := by
  refine fun_okC T.f_is_open sc_is_open len_S (fun cdv hkc A outer s H vs Q E hr h => ?_)
  have hkd := kds_of_code hkc
  obtain ⟨F, ds, d, hF, hd, hl, r, k⟩ := h
  obtain ⟨t, r, q, ct, ar, lk, rfl, rfl⟩ := r
  refine ⟨_, (pss_one (ps_ret (pe_and (pe_cmpR op_isN (pe_ix (k_ixT (K := K)) (pv 1) (pv 2) (fun _ _ => rfl)) pe_non (nomark _)) (pe_one (pe_or (pe_cmpR (k_eq (K := K) hr.units) (pv 2) pe_int (nomark _)) (pe_one (pe_cmpR op_notN (pe_ix (k_ixT (K := K)) (pv 1) (pe_ix (k_ixT (K := K)) (pv 0) (pv 2) (fun _ _ => rfl)) (fun _ _ => rfl)) pe_non (nomark _)))))))), run_spS (w := w) hF hd k ?_⟩
  obtain ⟨c, hc⟩ := row_has (r := r) (k := q) (by rw [ar.len]; exact lk)
  by_cases k0 : q = 0
  · subst k0
    refine run_ret (ev_andV (b := true || true) (ev_isN (ev_ixT (ev_var rfl) (ev_var rfl) (at_nat (row_at hc))).rd) fun _ => ev_orV ((ev_eq (rd_var rfl) rd_int rfl rfl).is rfl) fun z => nT z) (.inl ?_)
    unfold opn
    rw [cell_non, hold_at hc]
    simp
  · obtain ⟨p, hp⟩ := chart_has (t := t) (j := q) (by omega) lk
    have lp := ct _ _ hp
    obtain ⟨x, hx⟩ := row_has (r := r) (k := p) (by rw [ar.len]; omega)
    have hp2 : (chartL t)[q]? = some (.int p) := by
      have := chart_at hp
      rw [show q - 1 + 1 = q by omega] at this
      exact this
    refine run_ret (ev_andV (ev_isN (ev_ixT (ev_var rfl) (ev_var rfl) (at_nat (row_at hc))).rd) fun _ => ev_orV (ev_eq (rd_var rfl) rd_int rfl rfl) fun _ => ev_notN (ev_ixT (ev_var rfl) (ev_ixT (ev_var rfl) (ev_var rfl) (at_nat hp2)) (at_nat (row_at hx))).rd) (.inl ?_)
    have e0 : PyData.eqv (.int (q : Int)) (.int 0) = false := by
      simp only [PyData.eqv]
      exact beq_eq_false_iff_ne.mpr
            (by omega)
    unfold opn
    rw [cell_non, cell_non, hold_at hc, par_at hp, hold_at hx, e0, decide_eq_false k0, Bool.not_not]
def R_open_posts : List PD → List PD → Prop := fun ds es => ∃ t r, Chart t ∧ t.length < 1000 ∧ Arr t r ∧ ds = [chartD t, rowD r] ∧ es = intsD (openL t r)
theorem ok_open_posts (T : Tx K mg) : FnOk P w K mg base CX0 7 T.a_open_posts T.d_open_posts P_open_posts (spO K 2 R_open_posts) := by
  refine fun_okC T.f_open_posts sc_open_posts len_O (fun cdv hkc A outer s H vs Q E hr h => ?_)
  have hkd := kds_of_code hkc
  obtain ⟨F, ds, es, hF, hd, hl, r, k⟩ := h
  obtain ⟨t, r, ct, lt, ar, rfl, rfl⟩ := r
  refine ⟨_, (pss_cons (ps_expr (pe_call (ok_require_arrangement T) (hr.mono (by decide)) (by rfl) T.m_require_arrangement T.f_require_arrangement.kp T.b_require_arrangement .nil pass0 (pa_cons (pv 0) (pa_cons (pv 1) pa_nil))))
      (pss_one (ps_ret (pe_lc (own := [("k", 2)]) rfl sc_open_posts.nd (pi_range1 (by rfl) T.z_range (pa_cons (pe_callB (k_len (K := K)) (by rfl) T.z_len (by decide +kernel) (pa_cons (pv 0) pa_nil)) pa_nil)) (blkOk_by (N := N_open_posts) (sc := defScope s_open_posts) (by decide +kernel)) (fun _ _ _ _ _ => (pg_name (i := 2) sc_open_posts.nd rfl (by first | exact Or.inl rfl | exact Or.inr rfl))) (fun _ _ _ _ _ => (pts_one (pt_val (pe_call (ok_is_open T) (hr.mono (by decide)) (by rfl) T.m_is_open T.f_is_open.kp T.b_is_open .nil pass0 (pa_cons (pv 0) (pa_cons (pv 1) (pa_cons (pv 2) pa_nil))))))) (fun _ _ _ _ _ => (pv 2)))))), run_spO (w := w) hF hd k ?_⟩
  refine run_seq1 (run_drop (ev_call (ea_cons (ev_var rfl) (ea_cons (ev_var rfl) ea_nil)) ⟨t, r, ct, lt, ar, rfl, rfl⟩) rfl) ?_
  have l0 : ((chartL t).length : Int) = ((t.length + 1 : Nat) : Int) := by rw [chart_len]
  refine run_retO ((eo_lc (f := selD (opn t r)) (it_rng1 (ev_len (rd_var rfl)).rd (by rw [l0]; omega) (by rw [l0]; omega)) (by rw [rng_len, l0]; omega) ?_).is ?_) rfl
  · intro j x hj
    obtain ⟨hj, rfl⟩ := rng_at hj
    have ej : (0 : Int) + (j : Nat) = ((j : Nat) : Int) := by omega
    have c2 : (PyData.none :: List.map (fun n : Nat => PyData.int n) t).length = t.length + 1 := chart_len t
    rw [ej]
    refine ⟨_, _, _, fun j h => h, tg_name, ts_val (ev_call (ea_cons (ev_var rfl) (ea_cons (ev_var rfl) (ea_cons (ev_var rfl) ea_nil))) ⟨t, r, j, ct, ar, by omega, rfl, rfl⟩), fun q => ⟨_, ev_var rfl, ?_⟩, fun q => ?_⟩
    · rw [sel_at, if_pos q]
    · rw [sel_at, if_neg (by rw [q]; decide)]
  · rw [l0, Int.toNat_natCast]
    exact filt_range _ _ _ (sel_at _)
end
section
variable {P : Program} {w : World} {K : PySem.W.Frag} {mg : Str → Option Value} {base : Heap}
/-- ascending names, none too great -/
structure Names (l : List Nat) (c : Nat) : Prop where
  len : l.length = c
  up : l.Pairwise (· < ·)
  top : ∀ n ∈ l, n < 2 ^ 62
def namesP (c : Nat) : PD → Prop := fun d => ∃ l, d = .list (intsD l) ∧ Names l c
def R_names : List PD → (PD → Prop) → Prop := fun ds P => ∃ c : Nat, ds = [.int c] ∧ c ≤ 48 ∧ P = namesP c
theorem ints_more (l : List Nat) (n : Nat) : intsD (l ++ [n]) = intsD l ++ [.int (n : Int)] := by unfold intsD; rw [List.map_append]; rfl
theorem pair_more {l : List Nat} {n : Nat} (h : l.Pairwise (· < ·)) (t : ∀ m ∈ l, m < n) : (l ++ [n]).Pairwise (· < ·) :=
  List.pairwise_append.mpr ⟨h, List.pairwise_singleton _ _, fun a ha b hb => by rw [List.mem_singleton] at hb; subst hb; exact t a ha⟩
theorem ok_l_names (T : Tx K mg) : FnOk P w K mg base CX0 3 T.a_l_names T.d_l_names P_l_names (spG K 2 160 R_names) := by
  refine fun_okC T.f_l_names sc_l_names len_G (fun cdv hkc A outer s H vs Q E hr h => ?_)
  have hkd := kds_of_code hkc
  obtain ⟨F, g, n, us, ds, P, e0, hF, hg, hG, hn, hd, hl, r, k⟩ := h
  subst e0
  obtain ⟨c, rfl, hc, rfl⟩ := r
  refine ⟨_, (pss_cons (ps_set (i := 2) sc_l_names.nd rfl (by first | exact Or.inl rfl | exact Or.inr rfl) (pe_call (ok_l_random T) (hr.mono (by decide)) (by rfl) T.m_l_random T.f_l_random.kp T.b_l_random .nil pass0 (pa_cons (pv 0) (pa_cons pe_int pa_nil))))
      (pss_cons (ps_set (i := 3) sc_l_names.nd rfl (by first | exact Or.inl rfl | exact Or.inr rfl) (pe_lst pa_nil))
      (pss_cons (ps_set (i := 4) sc_l_names.nd rfl (by first | exact Or.inl rfl | exact Or.inr rfl) (pe_ix (k_ixL (K := K)) (pe_lst (pa_cons pe_int (pa_cons (pe_call (ok_l_random T) (hr.mono (by decide)) (by rfl) T.m_l_random T.f_l_random.kp T.b_l_random .nil pass0 (pa_cons (pv 0) (pa_cons pe_int pa_nil))) (pa_cons (pe_op op_sub (pe_op op_sub (pe_op op_powW pe_int pe_int) pe_int) (pe_op op_mulX pe_int (pe_op op_add (pv 1) pe_int))) pa_nil)))) (pv 2) (fun _ _ => rfl)))
      (pss_cons (ps_for PassesOwn.never rfl (pi_range1 (by rfl) T.z_range (pa_cons (pv 1) pa_nil)) (pg_name (i := 5) sc_l_names.nd rfl (by first | exact Or.inl rfl | exact Or.inr rfl))
      (pss_cons (ps_expr (pe_bm PySem.F.plainAttrs_list PySem.F.slot_list_append PySem.F.type_list_append mt_append (pv 3) (pa_cons (pv 4) pa_nil)))
      (pss_one (ps_set (i := 4) sc_l_names.nd rfl (by first | exact Or.inl rfl | exact Or.inr rfl) (pe_op op_add (pe_op op_add (pv 4) pe_int) (pe_call (ok_l_random T) (hr.mono (by decide)) (by rfl) T.m_l_random T.f_l_random.kp T.b_l_random .nil pass0 (pa_cons (pv 0) (pa_cons (pe_ix (k_ixL (K := K)) (pe_lst (pa_cons pe_int (pa_cons pe_int (pa_cons pe_int pa_nil)))) (pv 2) (fun _ _ => rfl)) pa_nil))))))))
      (pss_one (ps_ret (pv 3))))))), run_spG (w := w) hF hg hG hd k ?_⟩
  have hn' : n + 160 ≤ 1000000000000 := hn
  refine run_seq (mid := fun δ' => ∃ kd : Nat, kd < 3 ∧ δ' = [.gen false (n + 3), .d (.int c), .d (.int kd), .emp, .emp, .emp]) (run_setG (i := 0) (δ := [.gen false n, .d (.int c), .emp, .emp, .emp, .emp]) (eg_random (m := 3) ev_int (by decide) (by decide) (show n + 3 ≤ 1000000000000 by omega)) (Nat.zero_lt_succ _) ?_) ?_
  · rintro d ⟨r, rfl, r0, r1⟩
    refine ⟨r.toNat, by omega, ?_⟩
    rw [Int.toNat_of_nonneg r0]
    rfl
  rintro δ' ⟨kd, hk3, rfl⟩
  refine run_seq1 (run_setO (eo_lst ea_nil (by decide)) rfl) ?_
  refine run_seq (mid := fun δ' => ∃ a : Nat, a ≤ 1000000000000000000 ∧ δ' = [.gen false (n + 6), .d (.int c), .d (.int kd), .own true (intsD []), .d (.int a), .emp])
    (run_setG (i := 0) (δ := [.gen false (n + 3), .d (.int c), .d (.int kd), .own true (intsD []), .emp, .emp]) (n2 := n + 3 + 3) (P := fun d => ∃ a : Int, d = .int a ∧ 0 ≤ a ∧ a ≤ 1000000000000000000)
      (eg_ixL (P1 := fun d => ∃ l : List Int, l.length = 3 ∧ (∀ z ∈ l, 0 ≤ z ∧ z ≤ 1000000000000000000) ∧ d = .list (l.map .int)) (eg_lst (ega_cons (eg_pure ev_int) (ega_cons (eg_random (m := 9) ev_int (by decide) (by decide) (show n + 3 + 3 ≤ 1000000000000 by omega)) (ega_cons (eg_pure (ev_sub (ev_sub (ev_int2C rd_int rd_int ⟨by decide, by decide +kernel⟩ fun H => .int _).rd rd_int).rd (ev_mul rd_int (ev_add (rd_var rfl) rd_int).rd (mulx_ok (a := 31) (b := 31) (by decide) (nat_lt (by omega) (by omega)) (by decide))).rd)) ega_nil))) ?_) (eg_pure (ev_var rfl)) ?_) (Nat.zero_lt_succ _) ?_) ?_
  · rintro ds ⟨d1, r1, rfl, rfl, d2, r2, rfl, ⟨z, rfl, z0, z1⟩, d3, r3, rfl, rfl, rfl⟩
    refine ⟨by simp, [0, z, _], rfl, fun y hy => ?_, rfl⟩
    have e18 : (10 : Int) ^ Int.toNat 18 = 1000000000000000000 := by decide +kernel
    rw [e18] at hy
    simp only [List.mem_cons, List.not_mem_nil, or_false] at hy
    rcases hy with h | h | h <;> omega
  · rintro x y ⟨l, l3, hl, rfl⟩ rfl
    refine ⟨_, _, .int (l[kd]'(by omega)), rfl, rfl, at_nat (by rw [List.getElem?_map, List.getElem?_eq_getElem (by omega)]; rfl), _, rfl, ?_⟩
    exact hl _ (List.getElem_mem _)
  · rintro d ⟨a, rfl, a0, a1⟩
    refine ⟨a.toNat, by omega, ?_⟩
    rw [Int.toNat_of_nonneg a0, show n + 6 = n + 3 + 3 by omega]
    rfl
  rintro δ' ⟨a, ha, rfl⟩
  refine run_seq (mid := fun δ' => ∃ l x y n', n' ≤ n + 160 ∧ Names l c ∧ δ' = [.gen false n', .d (.int c), .d (.int kd), .own true (intsD l), x, y]) (run_for (it_rng1 (rd_var rfl) (by omega) (by omega)) (fun i δ' => ∃ (l : List Nat) (b : Nat) (y : Slot), l.length = i ∧ l.Pairwise (· < ·) ∧ (∀ m ∈ l, m < b) ∧ b ≤ 1000000000000000000 + 1000 * i ∧ δ' = [.gen false (n + 6 + 3 * i), .d (.int c), .d (.int kd), .own true (intsD l), .d (.int b), y])
    ⟨[], a, .emp, rfl, .nil, fun m h => (nomatch h), by omega, by rw [Int.natCast_zero, Int.mul_zero, Int.add_zero]⟩ ?_ ?_) ?_
  · rintro i x δ' hi ⟨l, b, y, ll, lp, lb, hb, rfl⟩
    obtain ⟨hi, rfl⟩ := rng_at hi
    refine ⟨_, _, tg_name, run_seq1 (run_append rfl (ev_var rfl) (by unfold intsD; rw [List.length_map, ll]; omega) rfl) ?_⟩
    obtain ⟨mm, hm, m1, m2⟩ : ∃ mm : Int, ([PyData.int 1, .int 5, .int 999] : List PD)[kd]? = some (.int mm) ∧ 1 ≤ mm ∧ mm ≤ 999 := by
      have : kd = 0 ∨ kd = 1 ∨ kd = 2 := by omega
      rcases this with rfl | rfl | rfl
      · exact ⟨1, rfl, by decide, by decide⟩
      · exact ⟨5, rfl, by decide, by decide⟩
      · exact ⟨999, rfl, by decide, by decide⟩
    refine run_setG (i := 0) (b := false) (n := n + 6 + 3 * i) (δ := [.gen false (n + 6 + 3 * i), .d (.int c), .d (.int kd), .own true (intsD l ++ [.int (b : Int)]), .d (.int b), .d (.int (0 + (i : Int)))]) (n2 := n + 6 + 3 * i + 3) (P := fun d => ∃ r : Int, d = .int (b + 1 + r) ∧ 0 ≤ r ∧ r < mm) (eg_int2 (eg_pure (ev_add (i := b) (rd_var (i := 4) rfl) rd_int)) (eg_random (m := mm) (ev_ixL (eo_lst (ea_cons ev_int (ea_cons ev_int (ea_cons ev_int ea_nil))) (by show 3 ≤ 100000; decide)).ev (ev_var (i := 2) rfl) (at_nat hm)) (by omega) (by omega) (show n + 6 + 3 * (i : Int) + 3 ≤ 1000000000000 by omega)) ?_) (Nat.zero_lt_succ _) ?_
    · rintro x y rfl ⟨r, rfl, r0, r1⟩
      exact ⟨_, _, _, rfl, rfl, ⟨r, rfl, r0, r1⟩, fun H => .int _⟩
    · rintro d ⟨r, rfl, r0, r1⟩
      refine ⟨l ++ [b], (b + 1 + r).toNat, .d (.int (0 + (i : Int))), by rw [List.length_append, ll]; rfl, pair_more lp lb, fun m hm => ?_, by omega, ?_⟩
      · rcases List.mem_append.mp hm with z | z
        · have := lb m z
          omega
        · rw [List.mem_singleton] at z
          omega
      · rw [Int.toNat_of_nonneg (by omega), ints_more, show n + 6 + 3 * ((i + 1 : Nat) : Int) = n + 6 + 3 * (i : Int) + 3 by omega]
        rfl
  · rintro δ' ⟨l, b, y, ll, lp, lb, hb, rfl⟩
    rw [rng_len] at ll hb ⊢
    rw [Int.toNat_natCast] at ll hb
    refine ⟨l, _, _, _, ?_, ⟨ll, lp, fun m hm => ?_⟩, rfl⟩
    · rw [Int.toNat_natCast]
      omega
    · have := lb m hm
      omega
  rintro δ' ⟨l, x, y, n', hl, nl, rfl⟩
  exact run_retV rfl ⟨.inl ⟨_, rfl, hl⟩, .inr ⟨_, rfl, l, rfl, nl⟩⟩
/-- rows told as a tuple or a list -/
def rowsV (b : Bool) (r : List (Option Nat)) : PD := if b then .tuple (rowL r) else .list (rowL r)
theorem rowsV_seq (b : Bool) (r : List (Option Nat)) : seqOf (rowsV b r) = some (rowL r) := by cases b <;> rfl
def R_open : List PD → List PD → Prop := fun ds es => ∃ t r b, Chart t ∧ t.length < 1000 ∧ r.length = t.length + 1 ∧ ds = [chartD t, rowsV b r] ∧ es = intsD (openL t r)
theorem range_more (n : Nat) (p : Nat → Bool) : (List.range (n + 1)).filter p = (List.range n).filter p ++ (if p n = true then [n] else []) := by
  rw [List.range_succ, List.filter_append, List.filter_cons, List.filter_nil]
theorem ok_l_open (T : Tx K mg) : FnOk P w K mg base CX0 1 T.a_l_open T.d_l_open P_l_open (spO K 2 R_open) := by
  refine fun_okC T.f_l_open sc_l_open len_O (fun cdv hkc A outer s H vs Q E hr h => ?_)
  have hkd := kds_of_code hkc
  obtain ⟨F, ds, es, hF, hd, hl, r, k⟩ := h
  obtain ⟨t, r, b, ct, lt, lr, rfl, rfl⟩ := r
  refine ⟨_, (pss_cons (ps_set (i := 2) sc_l_open.nd rfl (by first | exact Or.inl rfl | exact Or.inr rfl) (pe_lst pa_nil))
      (pss_cons (ps_for PassesOwn.never rfl (pi_enumT (by rfl) T.z_enumerate (pa_cons (pv 0) pa_nil)) (pg_tup rfl (pgs_cons (pg_name (i := 3) sc_l_open.nd rfl (by first | exact Or.inl rfl | exact Or.inr rfl)) (pgs_cons (pg_name (i := 4) sc_l_open.nd rfl (by first | exact Or.inl rfl | exact Or.inr rfl)) pgs_nil)))
      (pss_one (ps_if (PW.pt (pw_and (pt_cmpR op_isN (pe_ix (k_ix2 (K := K)) (pv 1) (pv 3) (fun _ _ => rfl)) pe_non (nomark _)) (pw_and1 (PW.pt (pw_or (pt_cmpR op_isN (pv 4) pe_non (nomark _)) (pw_or1 (pt_cmpR op_notN (pe_ix (k_ix2 (K := K)) (pv 1) (pv 4) (fun _ _ => rfl)) pe_non (nomark _)))))))) (pss_one (ps_expr (pe_bm PySem.F.plainAttrs_list PySem.F.slot_list_append PySem.F.type_list_append mt_append (pv 2) (pa_cons (pv 3) pa_nil)))) pss_nil)))
      (pss_one (ps_ret (pv 2))))), run_spO (w := w) hF hd k ?_⟩
  refine run_seq1 (run_setO (eo_lst ea_nil (by decide)) rfl) ?_
  have lc : (enumD (chartL t)).length = t.length + 1 := by rw [enum_len, chart_len]
  refine run_seq (mid := fun δ' => ∃ x y, δ' = [.d (chartD t), .d (rowsV b r), .own true (intsD (openL t r)), x, y]) (run_for (it_enumT (ev_var rfl)) (fun i δ' => ∃ x y, δ' = [.d (chartD t), .d (rowsV b r), .own true (intsD ((List.range i).filter (opn t r))), x, y]) ⟨_, _, rfl⟩ ?_ ?_) ?_
  · rintro i x δ' hi ⟨x1, y1, rfl⟩
    have li : i < t.length + 1 := by rw [← lc]; exact (List.getElem?_eq_some_iff.mp hi).1
    obtain ⟨d, hd, rfl⟩ := enum_at hi
    obtain ⟨c, hc⟩ := row_has (r := r) (k := i) (by omega)
    refine ⟨_, _, tg_tup (tgs_cons tg_name (tgs_cons tg_name tgs_nil)), ?_⟩
    have fl : (intsD ((List.range i).filter (opn t r))).length < 100000 := by
      unfold intsD
      have := List.length_filter_le (opn t r) (List.range i)
      rw [List.length_range] at this
      rw [List.length_map]
      omega
    refine run_if (b := opn t r i) (TsB.is (a := !c.isSome && (decide (i = 0) || hold r (par t i))) (ts_and ((ts_cmp (ev_isN (ev_ix2 (ev_var rfl) (rd_var rfl) (at_nat (row_at hc)) (rowsV_seq b r)).rd)).is (by rw [cell_non])) fun _ => ?_) (by unfold opn; rw [hold_at hc])) (fun q => run_append rfl (ev_var rfl) fl ⟨.d (.int (i : Nat)), .d d, ?_⟩) fun q => run_next ⟨.d (.int (i : Nat)), .d d, ?_⟩
    · by_cases k0 : i = 0
      · subst k0
        cases hd
        exact ts_or ((ts_cmp (ev_isN (rd_var rfl))).is rfl) fun z => nT z
      · obtain ⟨p, hp⟩ := chart_has (t := t) (j := i) (by omega) li
        have lp := ct _ _ hp
        have hd2 : d = .int p := by
          have := chart_at hp
          rw [show i - 1 + 1 = i by omega] at this
          rw [this] at hd
          exact (Option.some.inj hd).symm
        subst hd2
        obtain ⟨z, hz⟩ := row_has (r := r) (k := p) (by omega)
        rw [decide_eq_false k0, par_at hp, hold_at hz]
        exact ts_or (a := false) ((ts_cmp (ev_isN (rd_var rfl))).is rfl) fun _ => (ts_cmp (ev_notN (ev_ix2 (ev_var rfl) (rd_var rfl) (at_nat (row_at hz)) (rowsV_seq b r)).rd)).is (by rw [cell_non, Bool.not_not])
    · rw [range_more, if_pos q, ints_more]
      rfl
    · rw [range_more, if_neg (by rw [q]; decide), List.append_nil]
      rfl
  · rintro δ' ⟨x, y, rfl⟩
    rw [lc]
    exact ⟨x, y, rfl⟩
  rintro δ' ⟨x, y, rfl⟩
  exact run_retV rfl rfl
theorem row_set (r : List (Option Nat)) (k n : Nat) : rowL (r.set k (some n)) = (rowL r).set k (.int (n : Int)) := by
  show (r.set k (some n)).map cellD = _
  rw [List.map_set]
  rfl
def filledP (t l : List Nat) : PD → Prop := fun d => ∃ r, d = rowD r ∧ Arr t r ∧ ∀ m, some m ∈ r → m ∈ l
def R_filled : List PD → (PD → Prop) → Prop := fun ds P => ∃ t l c, Chart t ∧ t.length < 48 ∧ Names l c ∧ c ≤ t.length + 1 ∧ ds = [chartD t, .list (intsD l)] ∧ P = filledP t l
theorem ok_l_filled (T : Tx K mg) : FnOk P w K mg base CX0 3 T.a_l_filled T.d_l_filled P_l_filled (spG K 3 150 R_filled) := by
  refine fun_okC T.f_l_filled sc_l_filled len_G (fun cdv hkc A outer s H vs Q E hr h => ?_)
  have hkd := kds_of_code hkc
  obtain ⟨F, g, n, us, ds, P, e0, hF, hg, hG, hn, hd, hl, r, k⟩ := h
  subst e0
  obtain ⟨t, l, c, ct, lt, nl, lc, rfl, rfl⟩ := r
  refine ⟨_, (pss_cons (ps_set (i := 3) sc_l_filled.nd rfl (by first | exact Or.inl rfl | exact Or.inr rfl) (pe_op op_rep (pe_lst (pa_cons pe_non pa_nil)) (pe_callB (k_len (K := K)) (by rfl) T.z_len (by decide +kernel) (pa_cons (pv 1) pa_nil))))
      (pss_cons (ps_for PassesOwn.never rfl (k_pil (K := K) (pv 2)) (pg_name (i := 4) sc_l_filled.nd rfl (by first | exact Or.inl rfl | exact Or.inr rfl))
      (pss_cons (ps_set (i := 5) sc_l_filled.nd rfl (by first | exact Or.inl rfl | exact Or.inr rfl) (pe_call (ok_l_open T) (hr.mono (by decide)) (by rfl) T.m_l_open T.f_l_open.kp T.b_l_open .nil pass0 (pa_cons (pv 1) (pa_cons (pv 3) pa_nil))))
      (pss_one (ps_asg (pv 4) (pg_sub (pv 3) (pe_ix (k_ixL (K := K)) (pv 5) (pe_call (ok_l_random T) (hr.mono (by decide)) (by rfl) T.m_l_random T.f_l_random.kp T.b_l_random .nil pass0 (pa_cons (pv 0) (pa_cons (pe_callB (k_len (K := K)) (by rfl) T.z_len (by decide +kernel) (pa_cons (pv 5) pa_nil)) pa_nil))) (fun _ _ => rfl)) set_list)))))
      (pss_one (ps_ret (pe_callTy (k_tuple (K := K)) (by rfl) T.z_tuple (by decide +kernel) (pa_cons (pv 3) pa_nil)))))), run_spG (w := w) hF hg hG hd k ?_⟩
  have hn' : n + 150 ≤ 1000000000000 := hn
  have e0 : (List.replicate (t.length + 1) [PyData.none]).flatten = rowL (List.replicate (t.length + 1) none) := by
    rw [rep_one]
    show _ = (List.replicate (t.length + 1) none).map cellD
    rw [List.map_replicate]
    rfl
  have l1 : (chartL t).length = t.length + 1 := chart_len t
  refine run_seq1 (run_setO ((eo_rep (k := t.length + 1) (eo_lst (ea_cons ev_non ea_nil) (by show 1 ≤ 100000; decide)) ((ev_len (rd_var rfl)).is (congrArg PyData.int (congrArg Int.ofNat l1))).rd (by rw [List.length_singleton]; omega) (by omega)).is e0) rfl) ?_
  refine run_seq (mid := fun δ' => ∃ r n' x y, n' ≤ n + 150 ∧ Arr t r ∧ (∀ m, some m ∈ r → m ∈ l) ∧ δ' = [.gen false n', .d (chartD t), .d (.list (intsD l)), .own true (rowL r), x, y]) (run_for (it_list (ev_var rfl)) (fun i δ' => ∃ r x y, Arr t r ∧ emp r + i = t.length + 1 ∧ (∀ m, some m ∈ r → m ∈ l.take i) ∧ δ' = [.gen false (n + 3 * i), .d (chartD t), .d (.list (intsD l)), .own true (rowL r), x, y])
    ⟨_, .emp, .emp, arr_empty t, emp_all _, fun m h => (nomatch (List.eq_of_mem_replicate h)), by rw [Int.natCast_zero, Int.mul_zero, Int.add_zero]; rfl⟩ ?_ ?_) ?_
  · rintro i x δ' hi ⟨r, x1, y1, ar, em, hm, rfl⟩
    obtain ⟨nm, hnm, rfl⟩ := ints_at hi
    have li : i < l.length := (List.getElem?_eq_some_iff.mp hnm).1
    have lc2 := nl.len
    have op := open_pos ct ar.len (show 0 < emp r by omega)
    have ol := open_len t r
    refine ⟨_, _, tg_name, run_seq1 (run_set (EvO.ev (eo_callR (ra_cons (rd_var rfl) (ra_cons (rd_own rfl) ra_nil)) ⟨t, r, false, ct, by omega, ar.len, rfl, rfl⟩ (sc_ints _))) rfl) ?_⟩
    have l2 : ((intsD (openL t r)).length : Int) = ((openL t r).length : Nat) := by unfold intsD; rw [List.length_map]
    refine run_setitemG (i := 0) (j := 3) (b := false) (b2 := true) (n := n + 3 * i) (n2 := n + 3 * i + 3) (ds := rowL r) (d := .int (nm : Int)) (δ := [.gen false (n + 3 * i), .d (chartD t), .d (.list (intsD l)), .own true (rowL r), .d (.int (nm : Int)), .d (.list (intsD (openL t r)))]) (P := fun z => ∃ k ∈ openL t r, z = .int (k : Nat)) (ev_var rfl) rfl rfl
      (eg_ixL (eg_pure (ev_var (i := 5) (d := .list (intsD (openL t r))) rfl)) (eg_random (m := ((openL t r).length : Nat)) ((ev_len (rd_var (i := 5) (d := .list (intsD (openL t r))) rfl)).is (congrArg PyData.int l2)) (by omega) (by omega) (show n + 3 * (i : Int) + 3 ≤ 1000000000000 by omega)) ?_) (by simp) ?_
    · rintro x y rfl ⟨q, rfl, q0, q1⟩
      obtain ⟨q2, rfl⟩ : ∃ q2 : Nat, q = q2 := ⟨q.toNat, (Int.toNat_of_nonneg q0).symm⟩
      have lq : q2 < (openL t r).length := by omega
      exact ⟨_, _, .int ((openL t r)[q2] : Nat), rfl, rfl, at_nat (by unfold intsD; rw [List.getElem?_map, List.getElem?_eq_getElem lq]; rfl), _, List.getElem_mem lq, rfl⟩
    · rintro z ⟨k, hk, rfl⟩
      obtain ⟨lk, ok⟩ := open_lt hk
      have len := ar.len
      refine ⟨k, k, rfl, ixN_nat (by rw [row_len]; omega), r.set k (some nm), .d (.int (nm : Int)), .d (.list (intsD (openL t r))), arr_put ct ar lk ok ?_, ?_, ?_, ?_⟩
      · intro m hr
        obtain ⟨j, hj⟩ := List.mem_iff_getElem?.mp (hm m hr)
        rw [List.getElem?_take] at hj
        split at hj
        · rename_i lj
          obtain ⟨lj2, ej⟩ := List.getElem?_eq_some_iff.mp hj
          obtain ⟨li2, ei⟩ := List.getElem?_eq_some_iff.mp hnm
          rw [← ej, ← ei]
          exact List.pairwise_iff_getElem.mp nl.up j i lj2 li2 lj
        · cases hj
      · have e1 : r[k]? = some none := by
          obtain ⟨c', hc'⟩ := row_has (r := r) (k := k) (by omega)
          have := hold_at hc'
          unfold opn at ok
          rw [this] at ok
          cases c' with
          | none => exact hc'
          | some v => simp at ok
        have := emp_put (n := nm) e1
        omega
      · intro m hr
        rw [take_more hnm]
        rcases List.mem_or_eq_of_mem_set hr with z | z
        · exact List.mem_append_left _ (hm m z)
        · cases z
          exact List.mem_append_right _ (List.mem_singleton_self _)
      · rw [show n + 3 * ((i + 1 : Nat) : Int) = n + 3 * (i : Int) + 3 by omega, row_set]
        rfl
  · rintro δ' ⟨r, x, y, ar, em, hm, rfl⟩
    have l3 : (intsD l).length = l.length := by unfold intsD; rw [List.length_map]
    have lc2 := nl.len
    refine ⟨r, _, x, y, ?_, ar, fun m h => List.mem_of_mem_take (hm m h), rfl⟩
    rw [l3]
    omega
  rintro δ' ⟨r, n', x, y, hl, ar, hm, rfl⟩
  exact run_ret (ev_tupleOf (sq_own rfl)) ⟨.inl ⟨_, rfl, hl⟩, .inl ⟨_, rfl, r, rfl, ar, hm⟩⟩
def rowsP (t : List Nat) : PD → Prop := fun d => ∃ r, d = rowD r ∧ Arr t r ∧ ∀ m, some m ∈ r → m < 2 ^ 62
def R_random_rows : List PD → (PD → Prop) → Prop := fun ds P => ∃ t, Chart t ∧ t.length < 40 ∧ ds = [chartD t] ∧ P = rowsP t
theorem ok_l_random_rows (T : Tx K mg) : FnOk P w K mg base CX0 4 T.a_l_random_rows T.d_l_random_rows P_l_random_rows (spG K 2 320 R_random_rows) := by
  refine fun_okC T.f_l_random_rows sc_l_random_rows len_G (fun cdv hkc A outer s H vs Q E hr h => ?_)
  have hkd := kds_of_code hkc
  obtain ⟨F, g, n, us, ds, P, e0, hF, hg, hG, hn, hd, hl, r, k⟩ := h
  subst e0
  obtain ⟨t, ct, lt, rfl, rfl⟩ := r
  refine ⟨_, (pss_cons (ps_set (i := 2) sc_l_random_rows.nd rfl (by first | exact Or.inl rfl | exact Or.inr rfl) (pe_callB (k_len (K := K)) (by rfl) T.z_len (by decide +kernel) (pa_cons (pv 1) pa_nil)))
      (pss_cons (ps_set (i := 3) sc_l_random_rows.nd rfl (by first | exact Or.inl rfl | exact Or.inr rfl) (pe_ix (k_ixL (K := K)) (pe_lst (pa_cons (pv 2) (pa_cons (pv 2) (pa_cons (pe_call (ok_l_random T) (hr.mono (by decide)) (by rfl) T.m_l_random T.f_l_random.kp T.b_l_random .nil pass0 (pa_cons (pv 0) (pa_cons (pe_op op_add (pv 2) pe_int) pa_nil))) pa_nil)))) (pe_call (ok_l_random T) (hr.mono (by decide)) (by rfl) T.m_l_random T.f_l_random.kp T.b_l_random .nil pass0 (pa_cons (pv 0) (pa_cons pe_int pa_nil))) (fun _ _ => rfl)))
      (pss_one (ps_ret (pe_call (ok_l_filled T) (hr.mono (by decide)) (by rfl) T.m_l_filled T.f_l_filled.kp T.b_l_filled .nil pass0 (pa_cons (pv 0) (pa_cons (pv 1) (pa_cons (pe_call (ok_l_names T) (hr.mono (by decide)) (by rfl) T.m_l_names T.f_l_names.kp T.b_l_names .nil pass0 (pa_cons (pv 0) (pa_cons (pv 3) pa_nil))) pa_nil)))))))), run_spG (w := w) hF hg hG hd k ?_⟩
  have hn' : n + 320 ≤ 1000000000000 := hn
  have l1 : (chartL t).length = t.length + 1 := chart_len t
  refine run_seq1 (run_set ((ev_len (rd_var rfl)).is (congrArg PyData.int (congrArg Int.ofNat l1))) rfl) ?_
  refine run_seq (mid := fun δ' => ∃ c : Nat, c ≤ t.length + 1 ∧ δ' = [.gen false (n + 6), .d (chartD t), .d (.int ((t.length + 1 : Nat) : Int)), .d (.int c)])
    (run_setG (i := 0) (b := false) (n := n) (δ := [.gen false n, .d (chartD t), .d (.int ((t.length + 1 : Nat) : Int)), .emp]) (n2 := n + 3 + 3) (P := fun d => ∃ a : Int, d = .int a ∧ 0 ≤ a ∧ a ≤ t.length + 1)
      (eg_ixL (P1 := fun d => ∃ l : List Int, l.length = 3 ∧ (∀ z ∈ l, 0 ≤ z ∧ z ≤ t.length + 1) ∧ d = .list (l.map .int)) (P2 := intIn 3) (eg_lst (ega_cons (eg_pure (ev_var (i := 2) (d := .int ((t.length + 1 : Nat) : Int)) rfl)) (ega_cons (eg_pure (ev_var (i := 2) (d := .int ((t.length + 1 : Nat) : Int)) rfl)) (ega_cons (eg_random (m := ((t.length + 1 : Nat) : Int) + 1) (ev_add (rd_var (i := 2) (d := .int ((t.length + 1 : Nat) : Int)) rfl) rd_int) (by omega) (by omega) (show n + 3 ≤ 1000000000000 by omega)) ega_nil))) ?_) (eg_random (m := 3) ev_int (by decide) (by decide) (show n + 3 + 3 ≤ 1000000000000 by omega)) ?_) (by simp) ?_) ?_
  · rintro ds ⟨d1, r1, rfl, rfl, d2, r2, rfl, rfl, d3, r3, rfl, ⟨z, rfl, z0, z1⟩, rfl⟩
    refine ⟨by simp, [_, _, z], rfl, fun y hy => ?_, rfl⟩
    simp only [List.mem_cons, List.not_mem_nil, or_false] at hy
    rcases hy with h | h | h <;> omega
  · rintro x y ⟨l, l3, hl, rfl⟩ ⟨q, rfl, q0, q1⟩
    obtain ⟨q2, rfl⟩ : ∃ q2 : Nat, q = q2 := ⟨q.toNat, (Int.toNat_of_nonneg q0).symm⟩
    have lq : q2 < l.length := by omega
    exact ⟨_, _, .int (l[q2]), rfl, rfl, at_nat (by rw [List.getElem?_map, List.getElem?_eq_getElem lq]; rfl), _, rfl, hl _ (List.getElem_mem lq)⟩
  · rintro d ⟨a, rfl, a0, a1⟩
    refine ⟨a.toNat, by omega, ?_⟩
    rw [Int.toNat_of_nonneg a0, show n + 6 = n + 3 + 3 by omega]
    rfl
  rintro δ' ⟨c, hc, rfl⟩
  refine run_retG (i := 0) (b := false) (n := n + 6) (n2 := n + 6 + 160 + 150) (δ := [.gen false (n + 6), .d (chartD t), .d (.int ((t.length + 1 : Nat) : Int)), .d (.int c)]) (P := rowsP t)
    (eg_callX (PA := fun ds => ∃ l, Names l c ∧ ds = [chartD t, .list (intsD l)] ) (EvGA.imp (ega_cons (eg_pure (ev_var (i := 1) (d := chartD t) rfl)) (ega_cons (eg_call (P := namesP c) (ega_pure (ea_cons (ev_var (i := 3) (d := .int (c : Int)) rfl) ea_nil)) (show n + 6 + 160 ≤ 1000000000000 by omega) fun ds e => by subst e; exact ⟨rfl, c, rfl, by omega, rfl⟩) ega_nil)) ?_) (show n + 6 + 160 + 150 ≤ 1000000000000 by omega) ?_) (by simp) ?_
  · rintro ds ⟨d1, r1, rfl, rfl, d2, r2, rfl, ⟨l, rfl, nl⟩, rfl⟩
    exact ⟨l, nl, rfl⟩
  · rintro ds ⟨l, nl, rfl⟩
    refine ⟨rfl, _, ⟨t, l, c, ct, by omega, nl, hc, rfl, rfl⟩, ?_⟩
    rintro d ⟨r, rfl, ar, hm⟩
    exact ⟨r, rfl, ar, fun m h => nl.top m (hm m h)⟩
  · rintro d pd
    exact ⟨.inl ⟨_, rfl, by omega⟩, .inl ⟨_, rfl, pd⟩⟩
/-- sorted names -/
def sortN (l : List Nat) : List Nat := l.mergeSort fun a b => decide (a ≤ b)
theorem sort_perm (l : List Nat) : (sortN l).Perm l := List.mergeSort_perm _ _
theorem sort_up (l : List Nat) : (sortN l).Pairwise (· ≤ ·) := by
  refine (List.pairwise_mergeSort (le := fun a b => decide (a ≤ b)) (fun a b c h1 h2 => ?_) (fun a b => ?_) l).imp fun h => of_decide_eq_true h
  · exact decide_eq_true (Nat.le_trans (of_decide_eq_true h1) (of_decide_eq_true h2))
  · rcases Nat.le_total a b with h | h
    · simp [h]
    · simp [h]
def heldL (r : List (Option Nat)) : List Nat := r.filterMap id
theorem held_row (r : List (Option Nat)) : (rowL r).filterMap (fun d => if isNon d then none else some d) = intsD (heldL r) := by
  induction r with
  | nil => rfl
  | cons c r ih =>
    cases c with
    | none => exact ih
    | some n => exact congrArg (PyData.int n :: ·) ih
def R_held : List PD → List PD → Prop := fun ds es => ∃ r, r.length ≤ 1000 ∧ ds = [rowD r] ∧ es = intsD (sortN (heldL r))
theorem ok_l_held (T : Tx K mg) : FnOk P w K mg base CX0 1 T.a_l_held T.d_l_held P_l_held (spO K 1 R_held) := by
  refine fun_okC T.f_l_held sc_l_held len_O (fun cdv hkc A outer s H vs Q E hr h => ?_)
  have hkd := kds_of_code hkc
  obtain ⟨F, ds, es, hF, hd, hl, r, k⟩ := h
  obtain ⟨r, lr, rfl, rfl⟩ := r
  refine ⟨_, (pss_one (ps_ret (pe_callB (k_sorted (K := K)) (by rfl) T.z_sorted (by decide +kernel) (pa_cons (pe_lc (own := [("_law_name", 1)]) rfl sc_l_held.nd (k_pit (K := K) (pv 0)) (blkOk_by (N := N_l_held) (sc := defScope s_l_held) (by decide +kernel)) (fun _ _ _ _ _ => (pg_name (i := 1) sc_l_held.nd rfl (by first | exact Or.inl rfl | exact Or.inr rfl))) (fun _ _ _ _ _ => (pts_one (pt_cmpR op_notN (pv 1) pe_non (nomark _)))) (fun _ _ _ _ _ => (pv 1))) pa_nil)))), run_spO (w := w) hF hd k ?_⟩
  refine run_retO ((eo_sorted (ns := (heldL r).map fun n : Nat => (n : Int)) (ms := (sortN (heldL r)).map fun n : Nat => (n : Int)) (((eo_lc (f := fun d => if isNon d then none else some d) (it_tup (ev_var rfl)) (by rw [row_len]; omega) ?_).is ((held_row r).trans (intsD_eq _))).rd) ((sort_perm _).map _) (List.pairwise_map.mpr ((sort_up _).imp fun {a b} h => by omega))).is (intsD_eq _).symm) rfl
  rintro j x hj
  obtain ⟨c, hc, rfl⟩ := row_of hj
  refine ⟨_, _, !isNon (cellD c), fun j h => h, tg_name, ts_cmp (ev_notN (rd_var rfl)), fun q => ⟨cellD c, ev_var rfl, ?_⟩, fun q => ?_⟩
  · rw [if_neg (by simpa using q)]
  · rw [if_pos (by simpa using q)]
end
section
variable {P : Program} {w : World} {K : PySem.W.Frag} {mg : Str → Option Value} {base : Heap}
def R_right : List PD → (PD → Prop) → Prop := fun ds P => ∃ t r, Chart t ∧ t.length < 40 ∧ Arr t r ∧ (∀ m, some m ∈ r → m < 2 ^ 62) ∧ ds = [chartD t, rowD r] ∧ P = fun d => d = .bool true
theorem eqv_str (x : Str) : PyData.eqv (.str x) (.str x) = true := by simp [PyData.eqv]
theorem shp_strI (c : Int) : SeqAt.shaped (.str (toString c)) = true := shp_ok (n := 0) (shp_str _)
theorem shp_shown (l : List Nat) : SeqAt.shaped (.str (PyData.shown (.list (intsD l)))) = true := shp_ok (n := 0) ⟨shown_ints_ok l, Nat.zero_le _⟩
def incD : PD → PD
  | .int a => .int (a + 1)
  | d => d
theorem inc_map (l : List Nat) : (intsD l).map incD = (l.map fun n : Nat => (n : Int) + 1).map PyData.int := by
  unfold intsD
  rw [List.map_map, List.map_map]
  rfl
theorem held_len (r : List (Option Nat)) : (sortN (heldL r)).length ≤ r.length := by
  rw [(sort_perm _).length_eq]
  exact List.length_filterMap_le _ _
theorem ok_l_right (T : Tx K mg) : FnG P w K mg base 8 T.a_l_right T.d_l_right P_l_right (spG K 3 3 R_right) := by
  refine fun_okG T.f_l_right sc_l_right len_G (fun cdv hkc A outer s H vs Q E hgd hr h => ?_)
  have hkd := kds_of_code hkc
  obtain ⟨F, g, n, us, ds, P, e0, hF, hg, hG, hn, hd, hl, r, k⟩ := h
  subst e0
  obtain ⟨t, r, ct, lt, ar, top, rfl, rfl⟩ := r
  refine ⟨_, (pss_cons (ps_for PassesOwn.never rfl (pi_range1 (by rfl) T.z_range (pa_cons pe_int pa_nil)) (pg_name (i := 3) sc_l_right.nd rfl (by first | exact Or.inl rfl | exact Or.inr rfl))
      (pss_cons (ps_set (i := 4) sc_l_right.nd rfl (by first | exact Or.inl rfl | exact Or.inr rfl) (pe_call (ok_open_posts T) (hr.mono (by decide)) (by rfl) T.m_open_posts T.f_open_posts.kp T.b_open_posts .nil pass0 (pa_cons (pv 1) (pa_cons (pv 2) pa_nil))))
      (pss_cons (ps_if (pt_cmpR (k_ne (K := K) hr.units) (pe_callB (cr_repr hgd hr.units) (by rfl) T.z_repr (by decide +kernel) (pa_cons (pv 4) pa_nil)) (pe_callB (cr_repr hgd hr.units) (by rfl) T.z_repr (by decide +kernel) (pa_cons (pe_call (ok_l_open T) (hr.mono (by decide)) (by rfl) T.m_l_open T.f_l_open.kp T.b_l_open .nil pass0 (pa_cons (pv 1) (pa_cons (pv 2) pa_nil))) pa_nil)) (nomark _)) (pss_one (ps_ret pe_bl)) pss_nil)
      (pss_one (ps_expr (pe_bm PySem.F.plainAttrs_list PySem.F.slot_list_append PySem.F.type_list_append mt_append (pv 4) (pa_cons pe_non pa_nil)))))))
      (pss_cons (ps_for PassesOwn.never rfl (pi_enumT (by rfl) T.z_enumerate (pa_cons (pv 2) pa_nil)) (pg_tup rfl (pgs_cons (pg_name (i := 5) sc_l_right.nd rfl (by first | exact Or.inl rfl | exact Or.inr rfl)) (pgs_cons (pg_name (i := 6) sc_l_right.nd rfl (by first | exact Or.inl rfl | exact Or.inr rfl)) pgs_nil)))
      (pss_one (ps_if (PW.pt (pw_and (pt_cmpR op_notN (pv 6) pe_non (nomark _)) (pw_and1 (pt_cmpR (k_ne (K := K) hr.units) (pe_callB (cr_repr hgd hr.units) (by rfl) T.z_repr (by decide +kernel) (pa_cons (pe_call (ok_post_of T) (hr.mono (by decide)) (by rfl) T.m_post_of T.f_post_of.kp T.b_post_of .nil pass0 (pa_cons (pv 1) (pa_cons (pv 2) (pa_cons (pv 6) pa_nil)))) pa_nil)) (pe_callTy call_str_int (by rfl) T.z_str (by decide +kernel) (pa_cons (pv 5) pa_nil)) (nomark _))))) (pss_one (ps_ret pe_bl)) pss_nil)))
      (pss_cons (ps_set (i := 7) sc_l_right.nd rfl (by first | exact Or.inl rfl | exact Or.inr rfl) (pe_op (k_catL (K := K)) (pe_lc (own := [("_law_name", 6)]) rfl sc_l_right.nd (k_pil (K := K) (pe_call (ok_l_held T) (hr.mono (by decide)) (by rfl) T.m_l_held T.f_l_held.kp T.b_l_held .nil pass0 (pa_cons (pv 2) pa_nil))) (blkOk_by (N := N_l_right) (sc := defScope s_l_right) (by decide +kernel)) (fun _ _ _ _ _ => (pg_name (i := 6) sc_l_right.nd rfl (by first | exact Or.inl rfl | exact Or.inr rfl))) (fun _ _ _ _ _ => pts_nil) (fun _ _ _ _ _ => (pe_op op_add (pv 6) pe_int))) (pe_lst (pa_cons pe_int (pa_cons pe_int (pa_cons pe_int (pa_cons (pe_op op_sub (pe_op op_powW pe_int pe_int) pe_int) (pa_cons (pe_call (ok_l_random T) (hr.mono (by decide)) (by rfl) T.m_l_random T.f_l_random.kp T.b_l_random .nil pass0 (pa_cons (pv 0) (pa_cons (pe_op op_powW pe_int pe_int) pa_nil))) pa_nil))))))))
      (pss_one (ps_ret (pe_cmpR (k_eq (K := K) hr.units) (pe_lc (own := [("_law_name", 6)]) rfl sc_l_right.nd (k_pil (K := K) (pv 7)) (blkOk_by (N := N_l_right) (sc := defScope s_l_right) (by decide +kernel)) (fun _ _ _ _ _ => (pg_name (i := 6) sc_l_right.nd rfl (by first | exact Or.inl rfl | exact Or.inr rfl))) (fun _ _ _ _ _ => (pts_one (PW.pt (pw_and (pt_cmpR (k_notin (K := K)) (pv 6) (pv 2) (by rfl)) (pw_and1 (pt_cmpR op_notN (pe_call (ok_post_of T) (hr.mono (by decide)) (by rfl) T.m_post_of T.f_post_of.kp T.b_post_of .nil pass0 (pa_cons (pv 1) (pa_cons (pv 2) (pa_cons (pv 6) pa_nil)))) pe_non (nomark _))))))) (fun _ _ _ _ _ => (pv 6))) (pe_lst pa_nil) (nomark _))))))), run_spG (w := w) hF hg hG hd k ?_⟩
  have hn' : n + 3 ≤ 1000000000000 := hn
  have ol := open_len t r
  have tp : ∀ k ∈ openL t r, k < 2 ^ 62 := fun k hk => by
    have := (open_lt hk).1
    omega
  obtain ⟨s1, s2, s3, s4, s5⟩ := show_all (openL t r) tp
  have shown : (PyData.shown (.list (intsD (openL t r)))).length ≤ sizeLine := by
    refine Nat.le_trans (listText_len_le _) ?_
    have : (100000 : Nat) ≤ sizeLine := by decide
    omega
  have dep : (PyData.list (intsD (openL t r))).depth ≤ 60 := by
    show PyData.depthAll (intsD (openL t r)) + 1 ≤ 60
    rw [s3]
    decide
  refine run_seq (mid := fun δ' => ∃ x y, δ' = [.gen false n, .d (chartD t), .d (rowD r), x, y, .emp, .emp, .emp]) (run_for (it_rng1 rd_int (by decide) (by decide)) (fun _ δ' => ∃ x y, δ' = [.gen false n, .d (chartD t), .d (rowD r), x, y, .emp, .emp, .emp]) ⟨_, _, rfl⟩ ?_ fun _ z => z) ?_
  · rintro i x δ' hi ⟨x1, y1, rfl⟩
    obtain ⟨hi, rfl⟩ := rng_at hi
    refine ⟨_, _, tg_name, run_seq1 (run_setO (eo_call (ea_cons (ev_var rfl) (ea_cons (ev_var rfl) ea_nil)) ⟨t, r, ct, by omega, ar, rfl, rfl⟩) rfl) ?_⟩
    refine run_seq1 (run_no (ts_cmp (ev_ne (ev_repr (d := .list (intsD (openL t r))) (rd_own rfl) s1 s2 dep shown).rd (ev_repr (d := .list (intsD (openL t r))) (eo_call (es := intsD (openL t r)) (ea_cons (ev_var rfl) (ea_cons (ev_var rfl) ea_nil)) ⟨t, r, true, ct, by omega, ar.len, rfl, rfl⟩).rd s1 s2 dep shown).rd (shp_shown _) (shp_shown _))) (by rw [eqv_str]; rfl) (run_next rfl)) ?_
    exact run_append rfl ev_non (by unfold intsD; rw [List.length_map]; omega) ⟨_, _, rfl⟩
  rintro δ' ⟨x0, y0, rfl⟩
  refine run_seq (mid := fun δ' => ∃ x y z u, δ' = [.gen false n, .d (chartD t), .d (rowD r), x, y, z, u, .emp]) (run_for (it_enumT (ev_var rfl)) (fun _ δ' => ∃ x y z u, δ' = [.gen false n, .d (chartD t), .d (rowD r), x, y, z, u, .emp]) ⟨_, _, _, _, rfl⟩ ?_ fun _ z => z) ?_
  · rintro i x δ' hi ⟨x1, y1, z1, u1, rfl⟩
    obtain ⟨d, hd, rfl⟩ := enum_at hi
    obtain ⟨c, hc, rfl⟩ := row_of hd
    have li : i < t.length + 1 := by rw [← ar.len]; exact (List.getElem?_eq_some_iff.mp hc).1
    refine ⟨_, _, tg_tup (tgs_cons tg_name (tgs_cons tg_name tgs_nil)), ?_⟩
    cases c with
    | none => exact run_no (b := false && false) (ts_and ((ts_cmp (ev_notN (rd_var rfl))).is rfl) fun z => nF z) rfl (run_next ⟨_, _, _, _, rfl⟩)
    | some m =>
      have e1 : posD r m = .int i := pos_at hc fun j l e => by
        have := ar.inj j i m e hc
        omega
      have a := int_show (n := i) (by omega)
      have b : (PyData.shown (.int (i : Int))).length ≤ sizeLine := int_text_fits a
      refine run_no (ts_and (ts_cmp (ev_notN (rd_var rfl))) fun _ => ts_cmp (ev_ne (ev_repr (d := .int (i : Int)) ((ev_call (d := posD r m) (ea_cons (ev_var rfl) (ea_cons (ev_var rfl) (ea_cons (ev_var rfl) ea_nil))) ⟨t, r, m, ct, by omega, ar, rfl, rfl⟩).is e1).rd (decide_eq_true a) rfl (Nat.zero_le _) b).rd (ev_strI (rd_var rfl) a).rd (shp_strI _) (shp_strI _))) ?_ (run_next ⟨_, _, _, _, rfl⟩)
      show (_ && !PyData.eqv (.str (toString (i : Int))) (.str (toString (i : Int)))) = false
      rw [eqv_str, Bool.not_true, Bool.and_false]
  rintro δ' ⟨x1, y1, z1, u1, rfl⟩
  refine run_seq (mid := fun δ' => ∃ l : List Int, l.length ≤ 1000 ∧ (∀ z ∈ l, 0 ≤ z) ∧ δ' = [.gen false (n + 3), .d (chartD t), .d (rowD r), x1, y1, z1, u1, .d (.list (l.map .int))])
    (run_setG (i := 0) (b := false) (n := n) (n2 := n + 3) (δ := [.gen false n, .d (chartD t), .d (rowD r), x1, y1, z1, u1, .emp]) (P := fun d => ∃ l : List Int, l.length ≤ 1000 ∧ (∀ z ∈ l, 0 ≤ z) ∧ d = .list (l.map .int))
      (eg_catL (P1 := fun d => ∃ l : List Int, l.length ≤ 900 ∧ (∀ z ∈ l, 0 ≤ z) ∧ d = .list (l.map .int)) (P2 := fun d => ∃ l : List Int, l.length = 5 ∧ (∀ z ∈ l, 0 ≤ z) ∧ d = .list (l.map .int)) (EvG.imp (eg_pure (EvO.ev (eo_map (f := incD) (it_list (EvO.ev (eo_call (es := intsD (sortN (heldL r))) (ea_cons (ev_var (i := 2) (d := rowD r) rfl) ea_nil) ⟨r, by rw [ar.len]; omega, rfl, rfl⟩))) ?_ ?_))) ?_)
        (eg_lst (ega_cons (eg_pure ev_int) (ega_cons (eg_pure ev_int) (ega_cons (eg_pure ev_int) (ega_cons (eg_pure (ev_sub (ev_int2C rd_int rd_int ⟨by decide, by decide +kernel⟩ fun H => .int _).rd rd_int)) (ega_cons (eg_random (m := 1000000000000000000) ((ev_int2C rd_int rd_int ⟨by decide, by decide +kernel⟩ fun H => .int _).is (congrArg PyData.int (show (10 : Int) ^ Int.toNat 18 = 1000000000000000000 by decide +kernel))) (by decide) (by decide) (show n + 3 ≤ 1000000000000 by omega)) ega_nil))))) ?_) ?_) (by simp) ?_) ?_
  · have := held_len r
    have := ar.len
    unfold intsD
    rw [List.length_map]
    omega
  · intro j y hj
    obtain ⟨m, hm, rfl⟩ := ints_at hj
    exact ⟨_, _, fun j h => h, tg_name, ev_add (rd_var rfl) rd_int⟩
  · rintro d rfl
    have := held_len r
    have := ar.len
    refine ⟨(sortN (heldL r)).map fun n : Nat => (n : Int) + 1, by rw [List.length_map]; omega, fun z hz => ?_, congrArg PyData.list (inc_map _)⟩
    obtain ⟨m, _, rfl⟩ := List.mem_map.mp hz
    omega
  · rintro ds ⟨d1, r1, rfl, rfl, d2, r2, rfl, rfl, d3, r3, rfl, rfl, d4, r4, rfl, rfl, d5, r5, rfl, ⟨z, rfl, z0, z1⟩, rfl⟩
    have e18 : (10 : Int) ^ Int.toNat 18 = 1000000000000000000 := by decide +kernel
    rw [e18]
    refine ⟨by simp, [0, 1, 2, _, z], rfl, fun y hy => ?_, rfl⟩
    simp only [List.mem_cons, List.not_mem_nil, or_false] at hy
    rcases hy with h | h | h | h | h <;> omega
  · rintro x y ⟨l1, h1, h2, rfl⟩ ⟨l2, h3, h4, rfl⟩
    refine ⟨_, _, rfl, rfl, by rw [List.length_map, List.length_map]; omega, l1 ++ l2, by rw [List.length_append]; omega, fun z hz => ?_, by rw [List.map_append]⟩
    rcases List.mem_append.mp hz with q | q
    · exact h2 z q
    · exact h4 z q
  · rintro d ⟨l, h1, h2, rfl⟩
    exact ⟨l, h1, h2, rfl⟩
  rintro δ' ⟨l, ll, l0, rfl⟩
  refine run_ret ((ev_eq (eo_lc (f := fun _ => none) (it_list (ev_var rfl)) (by rw [List.length_map]; omega) ?_).rd (eo_lst ea_nil (by decide)).rd ?_ rfl).is (y := .bool true) ?_) ⟨.inl ⟨_, rfl, Int.le_refl _⟩, .inl ⟨_, rfl, rfl⟩⟩
  · intro j y hj
    rw [List.getElem?_map] at hj
    cases e : l[j]? with
    | none => rw [e] at hj; cases hj
    | some z =>
      rw [e] at hj
      cases hj
      obtain ⟨m, rfl⟩ : ∃ m : Nat, z = m := ⟨z.toNat, (Int.toNat_of_nonneg (l0 z (List.mem_of_getElem? e))).symm⟩
      refine ⟨_, _, false, fun j h => h, tg_name, ?_, nF, fun _ => rfl⟩
      have mem := any_row r m
      by_cases c : some m ∈ r
      · exact ts_and (a := false) (b := false) ((ts_cmp (ev_notin (rd_var rfl) (rd_var rfl) rfl (row_flat r))).is (by rw [mem, decide_eq_true c]; rfl)) nF
      · exact ts_and (a := true) (b := false) ((ts_cmp (ev_notin (rd_var rfl) (rd_var rfl) rfl (row_flat r))).is (by rw [mem, decide_eq_false c]; rfl)) fun _ => ts_cmp (ev_notN ((ev_call (d := posD r m) (ea_cons (ev_var rfl) (ea_cons (ev_var rfl) (ea_cons (ev_var rfl) ea_nil))) ⟨t, r, m, ct, by omega, ar, rfl, rfl⟩).is (pos_no c)).rd)
  · rw [filt_none]
    rfl
  · rw [filt_none]
    rfl
def spLaw (K : PySem.W.Frag) : Sp := fun vs H Q _ => ∃ (a : Addr) (ns : List Int), vs = [.ref a] ∧ SqL K H a (ns.map V.int) ∧ ns.length ≤ 63 ∧ NoD H ∧ ∀ H', Q (.bl true) H'
theorem ok_law (T : Tx K mg) : FnG P w K mg base 9 T.a_law T.d_law P_law (spLaw K) := by
  refine fun_okG T.f_law sc_law (fun vs H Q E ⟨a, ns, e, _⟩ => by rw [e]; rfl) (fun cdv hkc A outer s H vs Q E hgd hr h => ?_)
  obtain ⟨a, ns, rfl, hS, hlen, hN, q⟩ := h
  refine ⟨_, (pss_cons (ps_for PassesOwn.never rfl (pi_range1 (by rfl) T.z_range (pa_cons pe_int pa_nil)) (pg_name (i := 1) sc_law.nd rfl (by first | exact Or.inl rfl | exact Or.inr rfl))
      (pss_cons (ps_set (i := 2) sc_law.nd rfl (by first | exact Or.inl rfl | exact Or.inr rfl) (pe_call (ok_l_generator T) (hr.mono (by decide)) (by rfl) T.m_l_generator T.f_l_generator.kp T.b_l_generator .nil pass0 (pa_cons (pv 0) (pa_cons (pv 1) pa_nil))))
      (pss_cons (ps_set (i := 3) sc_law.nd rfl (by first | exact Or.inl rfl | exact Or.inr rfl) (pe_call (ok_l_random_chart T) (hr.mono (by decide)) (by rfl) T.m_l_random_chart T.f_l_random_chart.kp T.b_l_random_chart .nil pass0 (pa_cons (pv 2) (pa_cons pe_int pa_nil))))
      (pss_one (ps_for PassesOwn.never rfl (k_pil (K := K) (pe_op (k_catL (K := K)) (pe_lst (pa_cons (pe_op op_repT1 (pe_tupN (pa_cons pe_non pa_nil)) (pe_callB (k_len (K := K)) (by rfl) T.z_len (by decide +kernel) (pa_cons (pv 3) pa_nil))) pa_nil)) (pe_lc (own := [("_law_attempt", 5)]) rfl sc_law.nd (pi_range1 (by rfl) T.z_range (pa_cons pe_int pa_nil)) (blkOk_by (N := N_law) (sc := defScope s_law) (by decide +kernel)) (fun _ _ _ _ _ => (pg_name (i := 5) sc_law.nd rfl (by first | exact Or.inl rfl | exact Or.inr rfl))) (fun _ _ _ _ _ => pts_nil) (fun _ _ _ _ _ => (pe_call (ok_l_random_rows T) (hr.mono (by decide)) (by rfl) T.m_l_random_rows T.f_l_random_rows.kp T.b_l_random_rows .nil pass0 (pa_cons (pv 2) (pa_cons (pv 3) pa_nil))))))) (pg_name (i := 4) sc_law.nd rfl (by first | exact Or.inl rfl | exact Or.inr rfl))
      (pss_one (ps_if (pt_not (pt_val (pe_callG (ok_l_right T) hgd (hr.mono (by decide)) (by rfl) T.m_l_right T.f_l_right.kp T.b_l_right (pa_cons (pv 2) (pa_cons (pv 3) (pa_cons (pv 4) pa_nil)))))) (pss_one (ps_ret pe_bl)) pss_nil)))))))
      (pss_one (ps_ret pe_bl))), run_spS (w := w) (d := .bool true) (ds := [.list (ns.map .int)]) ⟨Same.refl H, hN⟩ (.cons (.lst hS (da_ints ns)) .nil) (fun v F2 H2 _ e => by rw [dp_bool e]; exact q H2) ?_⟩
  refine run_seq (mid := fun δ' => True) (run_for (it_rng1 rd_int (by decide) (by decide)) (fun _ δ' => ∃ x1 x2 x3 x4 x5, δ' = [.d (.list (ns.map .int)), x1, x2, x3, x4, x5]) ⟨_, _, _, _, _, rfl⟩ ?_ fun _ _ => trivial) fun _ _ => run_ret ev_bl (.inl rfl)
  rintro k x δ' hk ⟨x1, x2, x3, x4, x5, rfl⟩
  obtain ⟨k4, rfl⟩ := rng_at hk
  have ek : (0 : Int) + (k : Nat) = ((k : Nat) : Int) := by omega
  rw [ek]
  have k4 : k < 4 := k4
  refine ⟨_, _, tg_name, run_seq1 (run_setGen (n := 5000) (eo_call (ea_cons (ev_var rfl) (ea_cons (ev_var rfl) ea_nil)) ⟨ns, k, by omega, rfl, _, _, _, rfl, rfl, rfl, rfl⟩) ⟨Int.emod_nonneg _ (Int.ne_of_gt pos600), Int.emod_lt_of_pos _ pos600, Int.emod_nonneg _ (by decide), Int.emod_lt_of_pos _ (by decide), by omega, by omega⟩ rfl) ?_⟩
  refine run_seq (mid := fun δ' => ∃ t, Chart t ∧ t.length < 9 ∧ δ' = [.d (.list (ns.map .int)), .d (.int k), .gen true 5300, .d (chartD t), x4, x5]) (run_setG (i := 2) (δ := [.d (.list (ns.map .int)), .d (.int k), .gen true 5000, x3, x4, x5]) (n2 := 5000 + 300) (eg_call (ega_pure (ea_cons ev_int ea_nil)) (show (5000 : Int) + 300 ≤ 1000000000000 by decide) fun ds e => by subst e; exact ⟨rfl, 9, rfl, by decide, by decide, rfl⟩) (by simp) ?_) ?_
  · rintro d ⟨t, rfl, ct, lt⟩
    exact ⟨t, ct, lt, rfl⟩
  rintro δ' ⟨t, ct, lt, rfl⟩
  have l1 : (chartL t).length = t.length + 1 := chart_len t
  have e0 : (List.replicate (t.length + 1) [PyData.none]).flatten = rowL (List.replicate (t.length + 1) none) := by
    rw [rep_one]
    show _ = (List.replicate (t.length + 1) none).map cellD
    rw [List.map_replicate]
    rfl
  refine run_forG (i := 2) (b := true) (n := 5300) (n2 := 5300 + 320 * 3) (δ := [.d (.list (ns.map .int)), .d (.int k), .gen true 5300, .d (chartD t), x4, x5]) (P := fun d => ∃ es, d = .list es ∧ es.length = 4 ∧ ∀ e ∈ es, rowsP t e)
    (eg_catL (P1 := fun d => d = .list [rowD (List.replicate (t.length + 1) none)]) (P2 := fun d => ∃ es, d = .list es ∧ es.length = 3 ∧ ∀ e ∈ es, rowsP t e) (eg_pure (EvO.ev (eo_lst (ea_cons ((ev_repT (k := t.length + 1) (ev_tup (ea_cons ev_non ea_nil) (by decide)) ((ev_len (rd_var (i := 3) (d := chartD t) rfl)).is (congrArg PyData.int (congrArg Int.ofNat l1))).rd (by simp) (by omega) (by omega) (by simp)).is (congrArg PyData.tuple e0)) ea_nil) (by show 1 ≤ 100000; decide))))
      ((eg_lc (v := 5) (k := 320) (kp := fun x e => rowsP t e) (sk := fun _ => False) (it_rng1 rd_int (by decide) (by decide)) (by decide) (by decide) (by rw [rng_len]; decide) ?_).imp ?_) ?_) (by simp) ?_
  · intro j x hj
    obtain ⟨j3, rfl⟩ := rng_at hj
    have j3 : j < 3 := j3
    refine ⟨0, _, by decide, by rw [Int.add_zero]; exact tsg_pure ts_yes, fun _ => ?_, fun z => by cases z⟩
    rw [Int.add_zero]
    exact eg_call (ega_pure (ea_cons (ev_var (i := 3) (d := chartD t) rfl) ea_nil)) (show 5300 + 320 * (j : Int) + 320 ≤ 1000000000000 by omega) fun ds e => by subst e; exact ⟨rfl, t, ct, by omega, rfl, rfl⟩
  · rintro d ⟨es, rfl, lr⟩
    obtain ⟨l, a⟩ := lr.all
    rw [rng_len] at l
    have l : es.length = 3 := l
    refine ⟨es, rfl, l, fun e he => ?_⟩
    obtain ⟨j, hj⟩ := List.mem_iff_getElem?.mp he
    have lj := (List.getElem?_eq_some_iff.mp hj).1
    obtain ⟨e', h1, h2⟩ := a j (.int (0 + (j : Int))) (by unfold rngD; rw [List.getElem?_map, List.getElem?_range (show j < (3 : Int).toNat by show j < 3; omega)]; rfl)
    rw [hj] at h1
    cases h1
    exact h2
  · rintro x y rfl ⟨es, rfl, l, a⟩
    refine ⟨_, _, rfl, rfl, by rw [l]; show 1 + 3 ≤ 100000; decide, _, rfl, by rw [List.length_append, l]; rfl, fun e he => ?_⟩
    rcases List.mem_append.mp he with z | z
    · rw [List.mem_singleton] at z
      subst z
      exact ⟨_, rfl, arr_empty t, fun m h => (nomatch (List.eq_of_mem_replicate h))⟩
    · exact a e z
  · rintro d ⟨es, rfl, l, a⟩
    refine ⟨es, rfl, fun i δ' => ∃ z, δ' = [.d (.list (ns.map .int)), .d (.int k), .gen true (6260 + 3 * (i : Int)), .d (chartD t), z, x5], ⟨x4, rfl⟩, ?_, ?_⟩
    · rintro i e δ' he ⟨z, rfl⟩
      obtain ⟨r, rfl, ar, top⟩ := a e (List.mem_of_getElem? he)
      have li : i < 4 := by rw [← l]; exact (List.getElem?_eq_some_iff.mp he).1
      refine ⟨_, _, tg_name, ?_⟩
      refine run_ifG (i := 2) (b := true) (n := 6260 + 3 * (i : Int)) (n2 := 6260 + 3 * (i : Int) + 3) (δ := [.d (.list (ns.map .int)), .d (.int k), .gen true (6260 + 3 * (i : Int)), .d (chartD t), .d (rowD r), x5]) (PB := fun b => b = false) (tsg_not (tsg_val ((eg_call (P := fun d => d = .bool true) (ega_pure (ea_cons (ev_var (i := 3) (d := chartD t) rfl) (ea_cons (ev_var (i := 4) (d := rowD r) rfl) ea_nil))) (show 6260 + 3 * (i : Int) + 3 ≤ 1000000000000 by omega) fun ds e => by subst e; exact ⟨rfl, t, r, ct, by omega, ar, top, rfl, rfl⟩).imp fun d e => ⟨true, e, rfl⟩))) (by simp) (fun z => nT z) fun _ => run_next ⟨.d (rowD r), ?_⟩
      rw [show 6260 + 3 * ((i + 1 : Nat) : Int) = 6260 + 3 * (i : Int) + 3 by omega]
      rfl
    · rintro δ' ⟨z, rfl⟩
      exact ⟨_, _, _, _, _, rfl⟩
end
theorem all_mk {l : PySem.W.OpenLaw} {w : World} {K : PySem.W.Frag} {h : Heap} {mg : Str → Option Value} {fa : Addr} (X : K.In h) (G : h.Ns mainGlobals mg) (hfa : mg "law" = some (.ref fa))
    {od_is_whole an_is_whole : Option Addr} {sl_is_whole : Array (Option Value)} {oc_is_whole kV_is_whole dc_is_whole pm_is_whole cd_is_whole ct_is_whole : Value} {f_is_whole : Addr}
    {od_is_person an_is_person : Option Addr} {sl_is_person : Array (Option Value)} {oc_is_person kV_is_person dc_is_person pm_is_person cd_is_person ct_is_person : Value} {f_is_person : Addr}
    {od_is_post an_is_post : Option Addr} {sl_is_post : Array (Option Value)} {oc_is_post kV_is_post dc_is_post pm_is_post cd_is_post ct_is_post : Value} {f_is_post : Addr}
    {od_check_chart an_check_chart : Option Addr} {sl_check_chart : Array (Option Value)} {oc_check_chart kV_check_chart dc_check_chart pm_check_chart cd_check_chart ct_check_chart : Value} {f_check_chart : Addr}
    {od_require_chart an_require_chart : Option Addr} {sl_require_chart : Array (Option Value)} {oc_require_chart kV_require_chart dc_require_chart pm_require_chart cd_require_chart ct_require_chart : Value} {f_require_chart : Addr}
    {od_check_arrangement an_check_arrangement : Option Addr} {sl_check_arrangement : Array (Option Value)} {oc_check_arrangement kV_check_arrangement dc_check_arrangement pm_check_arrangement cd_check_arrangement ct_check_arrangement : Value} {f_check_arrangement : Addr}
    {od_may_stand_below an_may_stand_below : Option Addr} {sl_may_stand_below : Array (Option Value)} {oc_may_stand_below kV_may_stand_below dc_may_stand_below pm_may_stand_below cd_may_stand_below ct_may_stand_below : Value} {f_may_stand_below : Addr}
    {od_require_arrangement an_require_arrangement : Option Addr} {sl_require_arrangement : Array (Option Value)} {oc_require_arrangement kV_require_arrangement dc_require_arrangement pm_require_arrangement cd_require_arrangement ct_require_arrangement : Value} {f_require_arrangement : Addr}
    {od_post_of an_post_of : Option Addr} {sl_post_of : Array (Option Value)} {oc_post_of kV_post_of dc_post_of pm_post_of cd_post_of ct_post_of : Value} {f_post_of : Addr}
    {od_is_open an_is_open : Option Addr} {sl_is_open : Array (Option Value)} {oc_is_open kV_is_open dc_is_open pm_is_open cd_is_open ct_is_open : Value} {f_is_open : Addr}
    {od_open_posts an_open_posts : Option Addr} {sl_open_posts : Array (Option Value)} {oc_open_posts kV_open_posts dc_open_posts pm_open_posts cd_open_posts ct_open_posts : Value} {f_open_posts : Addr}
    {od_l_cell an_l_cell : Option Addr} {sl_l_cell : Array (Option Value)} {oc_l_cell kV_l_cell dc_l_cell pm_l_cell cd_l_cell ct_l_cell : Value} {f_l_cell : Addr}
    {od_l_hash an_l_hash : Option Addr} {sl_l_hash : Array (Option Value)} {oc_l_hash kV_l_hash dc_l_hash pm_l_hash cd_l_hash ct_l_hash : Value} {f_l_hash : Addr}
    {od_l_generator an_l_generator : Option Addr} {sl_l_generator : Array (Option Value)} {oc_l_generator kV_l_generator dc_l_generator pm_l_generator cd_l_generator ct_l_generator : Value} {f_l_generator : Addr}
    {od_l_random an_l_random : Option Addr} {sl_l_random : Array (Option Value)} {oc_l_random kV_l_random dc_l_random pm_l_random cd_l_random ct_l_random : Value} {f_l_random : Addr}
    {od_l_random_chart an_l_random_chart : Option Addr} {sl_l_random_chart : Array (Option Value)} {oc_l_random_chart kV_l_random_chart dc_l_random_chart pm_l_random_chart cd_l_random_chart ct_l_random_chart : Value} {f_l_random_chart : Addr}
    {od_l_names an_l_names : Option Addr} {sl_l_names : Array (Option Value)} {oc_l_names kV_l_names dc_l_names pm_l_names cd_l_names ct_l_names : Value} {f_l_names : Addr}
    {od_l_open an_l_open : Option Addr} {sl_l_open : Array (Option Value)} {oc_l_open kV_l_open dc_l_open pm_l_open cd_l_open ct_l_open : Value} {f_l_open : Addr}
    {od_l_filled an_l_filled : Option Addr} {sl_l_filled : Array (Option Value)} {oc_l_filled kV_l_filled dc_l_filled pm_l_filled cd_l_filled ct_l_filled : Value} {f_l_filled : Addr}
    {od_l_random_rows an_l_random_rows : Option Addr} {sl_l_random_rows : Array (Option Value)} {oc_l_random_rows kV_l_random_rows dc_l_random_rows pm_l_random_rows cd_l_random_rows ct_l_random_rows : Value} {f_l_random_rows : Addr}
    {od_l_held an_l_held : Option Addr} {sl_l_held : Array (Option Value)} {oc_l_held kV_l_held dc_l_held pm_l_held cd_l_held ct_l_held : Value} {f_l_held : Addr}
    {od_l_right an_l_right : Option Addr} {sl_l_right : Array (Option Value)} {oc_l_right kV_l_right dc_l_right pm_l_right cd_l_right ct_l_right : Value} {f_l_right : Addr}
    {od_law an_law : Option Addr} {sl_law : Array (Option Value)} {oc_law kV_law dc_law pm_law cd_law ct_law : Value} {f_law : Addr}
    (a_is_whole : PySem.W.nsIn K mainGlobals "is_whole" = some (some (.ref f_is_whole)))
    (l_is_whole : K.lookup f_is_whole = some ⟨oc_is_whole, od_is_whole, .func (PySem.W.fnOf "is_whole" "is_whole" (defArgs s_is_whole) (defBody s_is_whole) (defScope s_is_whole) .none kV_is_whole dc_is_whole pm_is_whole an_is_whole cd_is_whole ct_is_whole), sl_is_whole⟩)
    (c_is_whole : PySem.W.codeIn K cd_is_whole "is_whole" = true)
    (k_is_whole : PySem.W.keepIn K (.ref f_is_whole) = true)
    (a_is_person : PySem.W.nsIn K mainGlobals "is_person" = some (some (.ref f_is_person)))
    (l_is_person : K.lookup f_is_person = some ⟨oc_is_person, od_is_person, .func (PySem.W.fnOf "is_person" "is_person" (defArgs s_is_person) (defBody s_is_person) (defScope s_is_person) .none kV_is_person dc_is_person pm_is_person an_is_person cd_is_person ct_is_person), sl_is_person⟩)
    (c_is_person : PySem.W.codeIn K cd_is_person "is_person" = true)
    (k_is_person : PySem.W.keepIn K (.ref f_is_person) = true)
    (a_is_post : PySem.W.nsIn K mainGlobals "is_post" = some (some (.ref f_is_post)))
    (l_is_post : K.lookup f_is_post = some ⟨oc_is_post, od_is_post, .func (PySem.W.fnOf "is_post" "is_post" (defArgs s_is_post) (defBody s_is_post) (defScope s_is_post) .none kV_is_post dc_is_post pm_is_post an_is_post cd_is_post ct_is_post), sl_is_post⟩)
    (c_is_post : PySem.W.codeIn K cd_is_post "is_post" = true)
    (k_is_post : PySem.W.keepIn K (.ref f_is_post) = true)
    (a_check_chart : PySem.W.nsIn K mainGlobals "check_chart" = some (some (.ref f_check_chart)))
    (l_check_chart : K.lookup f_check_chart = some ⟨oc_check_chart, od_check_chart, .func (PySem.W.fnOf "check_chart" "check_chart" (defArgs s_check_chart) (defBody s_check_chart) (defScope s_check_chart) .none kV_check_chart dc_check_chart pm_check_chart an_check_chart cd_check_chart ct_check_chart), sl_check_chart⟩)
    (c_check_chart : PySem.W.codeIn K cd_check_chart "check_chart" = true)
    (k_check_chart : PySem.W.keepIn K (.ref f_check_chart) = true)
    (a_require_chart : PySem.W.nsIn K mainGlobals "require_chart" = some (some (.ref f_require_chart)))
    (l_require_chart : K.lookup f_require_chart = some ⟨oc_require_chart, od_require_chart, .func (PySem.W.fnOf "require_chart" "require_chart" (defArgs s_require_chart) (defBody s_require_chart) (defScope s_require_chart) .none kV_require_chart dc_require_chart pm_require_chart an_require_chart cd_require_chart ct_require_chart), sl_require_chart⟩)
    (c_require_chart : PySem.W.codeIn K cd_require_chart "require_chart" = true)
    (k_require_chart : PySem.W.keepIn K (.ref f_require_chart) = true)
    (a_check_arrangement : PySem.W.nsIn K mainGlobals "check_arrangement" = some (some (.ref f_check_arrangement)))
    (l_check_arrangement : K.lookup f_check_arrangement = some ⟨oc_check_arrangement, od_check_arrangement, .func (PySem.W.fnOf "check_arrangement" "check_arrangement" (defArgs s_check_arrangement) (defBody s_check_arrangement) (defScope s_check_arrangement) .none kV_check_arrangement dc_check_arrangement pm_check_arrangement an_check_arrangement cd_check_arrangement ct_check_arrangement), sl_check_arrangement⟩)
    (c_check_arrangement : PySem.W.codeIn K cd_check_arrangement "check_arrangement" = true)
    (k_check_arrangement : PySem.W.keepIn K (.ref f_check_arrangement) = true)
    (a_may_stand_below : PySem.W.nsIn K mainGlobals "may_stand_below" = some (some (.ref f_may_stand_below)))
    (l_may_stand_below : K.lookup f_may_stand_below = some ⟨oc_may_stand_below, od_may_stand_below, .func (PySem.W.fnOf "may_stand_below" "may_stand_below" (defArgs s_may_stand_below) (defBody s_may_stand_below) (defScope s_may_stand_below) .none kV_may_stand_below dc_may_stand_below pm_may_stand_below an_may_stand_below cd_may_stand_below ct_may_stand_below), sl_may_stand_below⟩)
    (c_may_stand_below : PySem.W.codeIn K cd_may_stand_below "may_stand_below" = true)
    (k_may_stand_below : PySem.W.keepIn K (.ref f_may_stand_below) = true)
    (a_require_arrangement : PySem.W.nsIn K mainGlobals "require_arrangement" = some (some (.ref f_require_arrangement)))
    (l_require_arrangement : K.lookup f_require_arrangement = some ⟨oc_require_arrangement, od_require_arrangement, .func (PySem.W.fnOf "require_arrangement" "require_arrangement" (defArgs s_require_arrangement) (defBody s_require_arrangement) (defScope s_require_arrangement) .none kV_require_arrangement dc_require_arrangement pm_require_arrangement an_require_arrangement cd_require_arrangement ct_require_arrangement), sl_require_arrangement⟩)
    (c_require_arrangement : PySem.W.codeIn K cd_require_arrangement "require_arrangement" = true)
    (k_require_arrangement : PySem.W.keepIn K (.ref f_require_arrangement) = true)
    (a_post_of : PySem.W.nsIn K mainGlobals "post_of" = some (some (.ref f_post_of)))
    (l_post_of : K.lookup f_post_of = some ⟨oc_post_of, od_post_of, .func (PySem.W.fnOf "post_of" "post_of" (defArgs s_post_of) (defBody s_post_of) (defScope s_post_of) .none kV_post_of dc_post_of pm_post_of an_post_of cd_post_of ct_post_of), sl_post_of⟩)
    (c_post_of : PySem.W.codeIn K cd_post_of "post_of" = true)
    (k_post_of : PySem.W.keepIn K (.ref f_post_of) = true)
    (a_is_open : PySem.W.nsIn K mainGlobals "is_open" = some (some (.ref f_is_open)))
    (l_is_open : K.lookup f_is_open = some ⟨oc_is_open, od_is_open, .func (PySem.W.fnOf "is_open" "is_open" (defArgs s_is_open) (defBody s_is_open) (defScope s_is_open) .none kV_is_open dc_is_open pm_is_open an_is_open cd_is_open ct_is_open), sl_is_open⟩)
    (c_is_open : PySem.W.codeIn K cd_is_open "is_open" = true)
    (k_is_open : PySem.W.keepIn K (.ref f_is_open) = true)
    (a_open_posts : PySem.W.nsIn K mainGlobals "open_posts" = some (some (.ref f_open_posts)))
    (l_open_posts : K.lookup f_open_posts = some ⟨oc_open_posts, od_open_posts, .func (PySem.W.fnOf "open_posts" "open_posts" (defArgs s_open_posts) (defBody s_open_posts) (defScope s_open_posts) .none kV_open_posts dc_open_posts pm_open_posts an_open_posts cd_open_posts ct_open_posts), sl_open_posts⟩)
    (c_open_posts : PySem.W.codeIn K cd_open_posts "open_posts" = true)
    (k_open_posts : PySem.W.keepIn K (.ref f_open_posts) = true)
    (a_l_cell : PySem.W.nsIn K mainGlobals "_law_cell" = some (some (.ref f_l_cell)))
    (l_l_cell : K.lookup f_l_cell = some ⟨oc_l_cell, od_l_cell, .func (PySem.W.fnOf "_law_cell" "_law_cell" (defArgs s_l_cell) (defBody s_l_cell) (defScope s_l_cell) .none kV_l_cell dc_l_cell pm_l_cell an_l_cell cd_l_cell ct_l_cell), sl_l_cell⟩)
    (c_l_cell : PySem.W.codeIn K cd_l_cell "_law_cell" = true)
    (k_l_cell : PySem.W.keepIn K (.ref f_l_cell) = true)
    (a_l_hash : PySem.W.nsIn K mainGlobals "_law_hash" = some (some (.ref f_l_hash)))
    (l_l_hash : K.lookup f_l_hash = some ⟨oc_l_hash, od_l_hash, .func (PySem.W.fnOf "_law_hash" "_law_hash" (defArgs s_l_hash) (defBody s_l_hash) (defScope s_l_hash) .none kV_l_hash dc_l_hash pm_l_hash an_l_hash cd_l_hash ct_l_hash), sl_l_hash⟩)
    (c_l_hash : PySem.W.codeIn K cd_l_hash "_law_hash" = true)
    (k_l_hash : PySem.W.keepIn K (.ref f_l_hash) = true)
    (a_l_generator : PySem.W.nsIn K mainGlobals "_law_generator" = some (some (.ref f_l_generator)))
    (l_l_generator : K.lookup f_l_generator = some ⟨oc_l_generator, od_l_generator, .func (PySem.W.fnOf "_law_generator" "_law_generator" (defArgs s_l_generator) (defBody s_l_generator) (defScope s_l_generator) .none kV_l_generator dc_l_generator pm_l_generator an_l_generator cd_l_generator ct_l_generator), sl_l_generator⟩)
    (c_l_generator : PySem.W.codeIn K cd_l_generator "_law_generator" = true)
    (k_l_generator : PySem.W.keepIn K (.ref f_l_generator) = true)
    (a_l_random : PySem.W.nsIn K mainGlobals "_law_random" = some (some (.ref f_l_random)))
    (l_l_random : K.lookup f_l_random = some ⟨oc_l_random, od_l_random, .func (PySem.W.fnOf "_law_random" "_law_random" (defArgs s_l_random) (defBody s_l_random) (defScope s_l_random) .none kV_l_random dc_l_random pm_l_random an_l_random cd_l_random ct_l_random), sl_l_random⟩)
    (c_l_random : PySem.W.codeIn K cd_l_random "_law_random" = true)
    (k_l_random : PySem.W.keepIn K (.ref f_l_random) = true)
    (a_l_random_chart : PySem.W.nsIn K mainGlobals "_law_random_chart" = some (some (.ref f_l_random_chart)))
    (l_l_random_chart : K.lookup f_l_random_chart = some ⟨oc_l_random_chart, od_l_random_chart, .func (PySem.W.fnOf "_law_random_chart" "_law_random_chart" (defArgs s_l_random_chart) (defBody s_l_random_chart) (defScope s_l_random_chart) .none kV_l_random_chart dc_l_random_chart pm_l_random_chart an_l_random_chart cd_l_random_chart ct_l_random_chart), sl_l_random_chart⟩)
    (c_l_random_chart : PySem.W.codeIn K cd_l_random_chart "_law_random_chart" = true)
    (k_l_random_chart : PySem.W.keepIn K (.ref f_l_random_chart) = true)
    (a_l_names : PySem.W.nsIn K mainGlobals "_law_names" = some (some (.ref f_l_names)))
    (l_l_names : K.lookup f_l_names = some ⟨oc_l_names, od_l_names, .func (PySem.W.fnOf "_law_names" "_law_names" (defArgs s_l_names) (defBody s_l_names) (defScope s_l_names) .none kV_l_names dc_l_names pm_l_names an_l_names cd_l_names ct_l_names), sl_l_names⟩)
    (c_l_names : PySem.W.codeIn K cd_l_names "_law_names" = true)
    (k_l_names : PySem.W.keepIn K (.ref f_l_names) = true)
    (a_l_open : PySem.W.nsIn K mainGlobals "_law_open" = some (some (.ref f_l_open)))
    (l_l_open : K.lookup f_l_open = some ⟨oc_l_open, od_l_open, .func (PySem.W.fnOf "_law_open" "_law_open" (defArgs s_l_open) (defBody s_l_open) (defScope s_l_open) .none kV_l_open dc_l_open pm_l_open an_l_open cd_l_open ct_l_open), sl_l_open⟩)
    (c_l_open : PySem.W.codeIn K cd_l_open "_law_open" = true)
    (k_l_open : PySem.W.keepIn K (.ref f_l_open) = true)
    (a_l_filled : PySem.W.nsIn K mainGlobals "_law_filled" = some (some (.ref f_l_filled)))
    (l_l_filled : K.lookup f_l_filled = some ⟨oc_l_filled, od_l_filled, .func (PySem.W.fnOf "_law_filled" "_law_filled" (defArgs s_l_filled) (defBody s_l_filled) (defScope s_l_filled) .none kV_l_filled dc_l_filled pm_l_filled an_l_filled cd_l_filled ct_l_filled), sl_l_filled⟩)
    (c_l_filled : PySem.W.codeIn K cd_l_filled "_law_filled" = true)
    (k_l_filled : PySem.W.keepIn K (.ref f_l_filled) = true)
    (a_l_random_rows : PySem.W.nsIn K mainGlobals "_law_random_rows" = some (some (.ref f_l_random_rows)))
    (l_l_random_rows : K.lookup f_l_random_rows = some ⟨oc_l_random_rows, od_l_random_rows, .func (PySem.W.fnOf "_law_random_rows" "_law_random_rows" (defArgs s_l_random_rows) (defBody s_l_random_rows) (defScope s_l_random_rows) .none kV_l_random_rows dc_l_random_rows pm_l_random_rows an_l_random_rows cd_l_random_rows ct_l_random_rows), sl_l_random_rows⟩)
    (c_l_random_rows : PySem.W.codeIn K cd_l_random_rows "_law_random_rows" = true)
    (k_l_random_rows : PySem.W.keepIn K (.ref f_l_random_rows) = true)
    (a_l_held : PySem.W.nsIn K mainGlobals "_law_held" = some (some (.ref f_l_held)))
    (l_l_held : K.lookup f_l_held = some ⟨oc_l_held, od_l_held, .func (PySem.W.fnOf "_law_held" "_law_held" (defArgs s_l_held) (defBody s_l_held) (defScope s_l_held) .none kV_l_held dc_l_held pm_l_held an_l_held cd_l_held ct_l_held), sl_l_held⟩)
    (c_l_held : PySem.W.codeIn K cd_l_held "_law_held" = true)
    (k_l_held : PySem.W.keepIn K (.ref f_l_held) = true)
    (a_l_right : PySem.W.nsIn K mainGlobals "_law_right" = some (some (.ref f_l_right)))
    (l_l_right : K.lookup f_l_right = some ⟨oc_l_right, od_l_right, .func (PySem.W.fnOf "_law_right" "_law_right" (defArgs s_l_right) (defBody s_l_right) (defScope s_l_right) .none kV_l_right dc_l_right pm_l_right an_l_right cd_l_right ct_l_right), sl_l_right⟩)
    (c_l_right : PySem.W.codeIn K cd_l_right "_law_right" = true)
    (k_l_right : PySem.W.keepIn K (.ref f_l_right) = true)
    (a_law : PySem.W.nsIn K mainGlobals "law" = some (some (.ref f_law)))
    (l_law : K.lookup f_law = some ⟨oc_law, od_law, .func (PySem.W.fnOf "law" "law" (defArgs s_law) (defBody s_law) (defScope s_law) .none kV_law dc_law pm_law an_law cd_law ct_law), sl_law⟩)
    (c_law : PySem.W.codeIn K cd_law "law" = true)
    (k_law : PySem.W.keepIn K (.ref f_law) = true)
    (z_bool : PySem.W.nsIn K mainGlobals "bool" = some none)
    (z_enumerate : PySem.W.nsIn K mainGlobals "enumerate" = some none)
    (z_int : PySem.W.nsIn K mainGlobals "int" = some none)
    (z_isinstance : PySem.W.nsIn K mainGlobals "isinstance" = some none)
    (z_len : PySem.W.nsIn K mainGlobals "len" = some none)
    (z_max : PySem.W.nsIn K mainGlobals "max" = some none)
    (z_min : PySem.W.nsIn K mainGlobals "min" = some none)
    (z_range : PySem.W.nsIn K mainGlobals "range" = some none)
    (z_repr : PySem.W.nsIn K mainGlobals "repr" = some none)
    (z_set : PySem.W.nsIn K mainGlobals "set" = some none)
    (z_sorted : PySem.W.nsIn K mainGlobals "sorted" = some none)
    (z_str : PySem.W.nsIn K mainGlobals "str" = some none)
    (z_tuple : PySem.W.nsIn K mainGlobals "tuple" = some none)
    (kt : ktB K = true) :
    ∃ fd : FuncData, (∀ (s : Shared) (v : Value), BindsTo s fd ⟨[v], []⟩ [("_law_script", v)]) ∧ ∀ base : Heap, K.In base → base.Ns mainGlobals mg → FnG l.prog w K mg base 9 fa fd ["_law_script"] (spLaw K) := by
  have e := hfa.symm.trans (PySem.W.mg_of X G a_law)
  cases e
  have F_is_whole := fun_mk (st := s_is_whole) l_is_whole c_is_whole k_is_whole
  have B_is_whole : Binds K _ P_is_whole [] := F_is_whole.binds (ps := P_is_whole) fun _ _ _ _ _ _ us hl => match us, hl with | [_], _ => rfl
  have F_is_person := fun_mk (st := s_is_person) l_is_person c_is_person k_is_person
  have B_is_person : Binds K _ P_is_person [] := F_is_person.binds (ps := P_is_person) fun _ _ _ _ _ _ us hl => match us, hl with | [_], _ => rfl
  have F_is_post := fun_mk (st := s_is_post) l_is_post c_is_post k_is_post
  have B_is_post : Binds K _ P_is_post [] := F_is_post.binds (ps := P_is_post) fun _ _ _ _ _ _ us hl => match us, hl with | [_, _], _ => rfl
  have F_check_chart := fun_mk (st := s_check_chart) l_check_chart c_check_chart k_check_chart
  have B_check_chart : Binds K _ P_check_chart [] := F_check_chart.binds (ps := P_check_chart) fun _ _ _ _ _ _ us hl => match us, hl with | [_], _ => rfl
  have F_require_chart := fun_mk (st := s_require_chart) l_require_chart c_require_chart k_require_chart
  have B_require_chart : Binds K _ P_require_chart [] := F_require_chart.binds (ps := P_require_chart) fun _ _ _ _ _ _ us hl => match us, hl with | [_], _ => rfl
  have F_check_arrangement := fun_mk (st := s_check_arrangement) l_check_arrangement c_check_arrangement k_check_arrangement
  have B_check_arrangement : Binds K _ P_check_arrangement [] := F_check_arrangement.binds (ps := P_check_arrangement) fun _ _ _ _ _ _ us hl => match us, hl with | [_, _], _ => rfl
  have F_may_stand_below := fun_mk (st := s_may_stand_below) l_may_stand_below c_may_stand_below k_may_stand_below
  have B_may_stand_below : Binds K _ P_may_stand_below [] := F_may_stand_below.binds (ps := P_may_stand_below) fun _ _ _ _ _ _ us hl => match us, hl with | [_, _], _ => rfl
  have F_require_arrangement := fun_mk (st := s_require_arrangement) l_require_arrangement c_require_arrangement k_require_arrangement
  have B_require_arrangement : Binds K _ P_require_arrangement [] := F_require_arrangement.binds (ps := P_require_arrangement) fun _ _ _ _ _ _ us hl => match us, hl with | [_, _], _ => rfl
  have F_post_of := fun_mk (st := s_post_of) l_post_of c_post_of k_post_of
  have B_post_of : Binds K _ P_post_of [] := F_post_of.binds (ps := P_post_of) fun _ _ _ _ _ _ us hl => match us, hl with | [_, _, _], _ => rfl
  have F_is_open := fun_mk (st := s_is_open) l_is_open c_is_open k_is_open
  have B_is_open : Binds K _ P_is_open [] := F_is_open.binds (ps := P_is_open) fun _ _ _ _ _ _ us hl => match us, hl with | [_, _, _], _ => rfl
  have F_open_posts := fun_mk (st := s_open_posts) l_open_posts c_open_posts k_open_posts
  have B_open_posts : Binds K _ P_open_posts [] := F_open_posts.binds (ps := P_open_posts) fun _ _ _ _ _ _ us hl => match us, hl with | [_, _], _ => rfl
  have F_l_cell := fun_mk (st := s_l_cell) l_l_cell c_l_cell k_l_cell
  have B_l_cell : Binds K _ P_l_cell [] := F_l_cell.binds (ps := P_l_cell) fun _ _ _ _ _ _ us hl => match us, hl with | [_, _], _ => rfl
  have F_l_hash := fun_mk (st := s_l_hash) l_l_hash c_l_hash k_l_hash
  have B_l_hash : Binds K _ P_l_hash [] := F_l_hash.binds (ps := P_l_hash) fun _ _ _ _ _ _ us hl => match us, hl with | [_, _], _ => rfl
  have F_l_generator := fun_mk (st := s_l_generator) l_l_generator c_l_generator k_l_generator
  have B_l_generator : Binds K _ P_l_generator [] := F_l_generator.binds (ps := P_l_generator) fun _ _ _ _ _ _ us hl => match us, hl with | [_, _], _ => rfl
  have F_l_random := fun_mk (st := s_l_random) l_l_random c_l_random k_l_random
  have B_l_random : Binds K _ P_l_random [] := F_l_random.binds (ps := P_l_random) fun _ _ _ _ _ _ us hl => match us, hl with | [_, _], _ => rfl
  have F_l_random_chart := fun_mk (st := s_l_random_chart) l_l_random_chart c_l_random_chart k_l_random_chart
  have B_l_random_chart : Binds K _ P_l_random_chart [] := F_l_random_chart.binds (ps := P_l_random_chart) fun _ _ _ _ _ _ us hl => match us, hl with | [_, _], _ => rfl
  have F_l_names := fun_mk (st := s_l_names) l_l_names c_l_names k_l_names
  have B_l_names : Binds K _ P_l_names [] := F_l_names.binds (ps := P_l_names) fun _ _ _ _ _ _ us hl => match us, hl with | [_, _], _ => rfl
  have F_l_open := fun_mk (st := s_l_open) l_l_open c_l_open k_l_open
  have B_l_open : Binds K _ P_l_open [] := F_l_open.binds (ps := P_l_open) fun _ _ _ _ _ _ us hl => match us, hl with | [_, _], _ => rfl
  have F_l_filled := fun_mk (st := s_l_filled) l_l_filled c_l_filled k_l_filled
  have B_l_filled : Binds K _ P_l_filled [] := F_l_filled.binds (ps := P_l_filled) fun _ _ _ _ _ _ us hl => match us, hl with | [_, _, _], _ => rfl
  have F_l_random_rows := fun_mk (st := s_l_random_rows) l_l_random_rows c_l_random_rows k_l_random_rows
  have B_l_random_rows : Binds K _ P_l_random_rows [] := F_l_random_rows.binds (ps := P_l_random_rows) fun _ _ _ _ _ _ us hl => match us, hl with | [_, _], _ => rfl
  have F_l_held := fun_mk (st := s_l_held) l_l_held c_l_held k_l_held
  have B_l_held : Binds K _ P_l_held [] := F_l_held.binds (ps := P_l_held) fun _ _ _ _ _ _ us hl => match us, hl with | [_], _ => rfl
  have F_l_right := fun_mk (st := s_l_right) l_l_right c_l_right k_l_right
  have B_l_right : Binds K _ P_l_right [] := F_l_right.binds (ps := P_l_right) fun _ _ _ _ _ _ us hl => match us, hl with | [_, _, _], _ => rfl
  have F_law := fun_mk (st := s_law) l_law c_law k_law
  have B_law : Binds K _ P_law [] := F_law.binds (ps := P_law) fun _ _ _ _ _ _ us hl => match us, hl with | [_], _ => rfl
  let T : Tx K mg := { a_is_whole := f_is_whole, d_is_whole := _, f_is_whole := F_is_whole, b_is_whole := B_is_whole, m_is_whole := PySem.W.mg_of X G a_is_whole, a_is_person := f_is_person, d_is_person := _, f_is_person := F_is_person, b_is_person := B_is_person, m_is_person := PySem.W.mg_of X G a_is_person, a_is_post := f_is_post, d_is_post := _, f_is_post := F_is_post, b_is_post := B_is_post, m_is_post := PySem.W.mg_of X G a_is_post, a_check_chart := f_check_chart, d_check_chart := _, f_check_chart := F_check_chart, b_check_chart := B_check_chart, m_check_chart := PySem.W.mg_of X G a_check_chart, a_require_chart := f_require_chart, d_require_chart := _, f_require_chart := F_require_chart, b_require_chart := B_require_chart, m_require_chart := PySem.W.mg_of X G a_require_chart, a_check_arrangement := f_check_arrangement, d_check_arrangement := _, f_check_arrangement := F_check_arrangement, b_check_arrangement := B_check_arrangement, m_check_arrangement := PySem.W.mg_of X G a_check_arrangement, a_may_stand_below := f_may_stand_below, d_may_stand_below := _, f_may_stand_below := F_may_stand_below, b_may_stand_below := B_may_stand_below, m_may_stand_below := PySem.W.mg_of X G a_may_stand_below, a_require_arrangement := f_require_arrangement, d_require_arrangement := _, f_require_arrangement := F_require_arrangement, b_require_arrangement := B_require_arrangement, m_require_arrangement := PySem.W.mg_of X G a_require_arrangement, a_post_of := f_post_of, d_post_of := _, f_post_of := F_post_of, b_post_of := B_post_of, m_post_of := PySem.W.mg_of X G a_post_of, a_is_open := f_is_open, d_is_open := _, f_is_open := F_is_open, b_is_open := B_is_open, m_is_open := PySem.W.mg_of X G a_is_open, a_open_posts := f_open_posts, d_open_posts := _, f_open_posts := F_open_posts, b_open_posts := B_open_posts, m_open_posts := PySem.W.mg_of X G a_open_posts, a_l_cell := f_l_cell, d_l_cell := _, f_l_cell := F_l_cell, b_l_cell := B_l_cell, m_l_cell := PySem.W.mg_of X G a_l_cell, a_l_hash := f_l_hash, d_l_hash := _, f_l_hash := F_l_hash, b_l_hash := B_l_hash, m_l_hash := PySem.W.mg_of X G a_l_hash, a_l_generator := f_l_generator, d_l_generator := _, f_l_generator := F_l_generator, b_l_generator := B_l_generator, m_l_generator := PySem.W.mg_of X G a_l_generator, a_l_random := f_l_random, d_l_random := _, f_l_random := F_l_random, b_l_random := B_l_random, m_l_random := PySem.W.mg_of X G a_l_random, a_l_random_chart := f_l_random_chart, d_l_random_chart := _, f_l_random_chart := F_l_random_chart, b_l_random_chart := B_l_random_chart, m_l_random_chart := PySem.W.mg_of X G a_l_random_chart, a_l_names := f_l_names, d_l_names := _, f_l_names := F_l_names, b_l_names := B_l_names, m_l_names := PySem.W.mg_of X G a_l_names, a_l_open := f_l_open, d_l_open := _, f_l_open := F_l_open, b_l_open := B_l_open, m_l_open := PySem.W.mg_of X G a_l_open, a_l_filled := f_l_filled, d_l_filled := _, f_l_filled := F_l_filled, b_l_filled := B_l_filled, m_l_filled := PySem.W.mg_of X G a_l_filled, a_l_random_rows := f_l_random_rows, d_l_random_rows := _, f_l_random_rows := F_l_random_rows, b_l_random_rows := B_l_random_rows, m_l_random_rows := PySem.W.mg_of X G a_l_random_rows, a_l_held := f_l_held, d_l_held := _, f_l_held := F_l_held, b_l_held := B_l_held, m_l_held := PySem.W.mg_of X G a_l_held, a_l_right := f_l_right, d_l_right := _, f_l_right := F_l_right, b_l_right := B_l_right, m_l_right := PySem.W.mg_of X G a_l_right, a_law := fa, d_law := _, f_law := F_law, b_law := B_law, m_law := PySem.W.mg_of X G a_law, kt := kt_of kt, z_bool := PySem.W.mg_none_of X G z_bool, z_enumerate := PySem.W.mg_none_of X G z_enumerate, z_int := PySem.W.mg_none_of X G z_int, z_isinstance := PySem.W.mg_none_of X G z_isinstance, z_len := PySem.W.mg_none_of X G z_len, z_max := PySem.W.mg_none_of X G z_max, z_min := PySem.W.mg_none_of X G z_min, z_range := PySem.W.mg_none_of X G z_range, z_repr := PySem.W.mg_none_of X G z_repr, z_set := PySem.W.mg_none_of X G z_set, z_sorted := PySem.W.mg_none_of X G z_sorted, z_str := PySem.W.mg_none_of X G z_str, z_tuple := PySem.W.mg_none_of X G z_tuple }
  exact ⟨_, fun s v => .of_eq rfl, fun base _ _ => ok_law T⟩
end Law
open PySem PySem.W PyProof.Rows in
set_option maxRecDepth 100000 in
set_option maxHeartbeats 0 in
theorem PySem.Challenge.cw_movingup_k08_posts_of_people_holds : PySem.Challenge.rw_movingup_k08_posts_of_people.Holds := by
  w_on; o_law; k_head; (case hw => w_witness2)
  k_fill
  refine MU.walk_ofG (l := PySem.Challenge.rw_movingup_k08_posts_of_people) (n := 63) (k := 9) (x := "_law_script") (sp := fun w => Law.spLaw _) rfl (by decide) rfl ⟨rfl, by decide, by decide⟩ (fun w h Y => PySem.W.kIn_of Y) ?F (fun _ _ a ns hl hO hS => ⟨a, ns, rfl, hS, hl, MU.only_nod hO, fun _ => rfl⟩)
  case F =>
    intro w mg fa h KX G hmg
    refine' Law.all_mk KX G hmg ?a_is_whole ?l_is_whole ?c_is_whole ?k_is_whole ?a_is_person ?l_is_person ?c_is_person ?k_is_person ?a_is_post ?l_is_post ?c_is_post ?k_is_post ?a_check_chart ?l_check_chart ?c_check_chart ?k_check_chart ?a_require_chart ?l_require_chart ?c_require_chart ?k_require_chart ?a_check_arrangement ?l_check_arrangement ?c_check_arrangement ?k_check_arrangement ?a_may_stand_below ?l_may_stand_below ?c_may_stand_below ?k_may_stand_below ?a_require_arrangement ?l_require_arrangement ?c_require_arrangement ?k_require_arrangement ?a_post_of ?l_post_of ?c_post_of ?k_post_of ?a_is_open ?l_is_open ?c_is_open ?k_is_open ?a_open_posts ?l_open_posts ?c_open_posts ?k_open_posts ?a_l_cell ?l_l_cell ?c_l_cell ?k_l_cell ?a_l_hash ?l_l_hash ?c_l_hash ?k_l_hash ?a_l_generator ?l_l_generator ?c_l_generator ?k_l_generator ?a_l_random ?l_l_random ?c_l_random ?k_l_random ?a_l_random_chart ?l_l_random_chart ?c_l_random_chart ?k_l_random_chart ?a_l_names ?l_l_names ?c_l_names ?k_l_names ?a_l_open ?l_l_open ?c_l_open ?k_l_open ?a_l_filled ?l_l_filled ?c_l_filled ?k_l_filled ?a_l_random_rows ?l_l_random_rows ?c_l_random_rows ?k_l_random_rows ?a_l_held ?l_l_held ?c_l_held ?k_l_held ?a_l_right ?l_l_right ?c_l_right ?k_l_right ?a_law ?l_law ?c_law ?k_law ?z_bool ?z_enumerate ?z_int ?z_isinstance ?z_len ?z_max ?z_min ?z_range ?z_repr ?z_set ?z_sorted ?z_str ?z_tuple ?kt
    (case a_is_whole => k_is); (case l_is_whole => k_is); (case c_is_whole => k_is); (case k_is_whole => k_is); (case a_is_person => k_is); (case l_is_person => k_is); (case c_is_person => k_is); (case k_is_person => k_is); (case a_is_post => k_is); (case l_is_post => k_is); (case c_is_post => k_is); (case k_is_post => k_is); (case a_check_chart => k_is); (case l_check_chart => k_is); (case c_check_chart => k_is); (case k_check_chart => k_is); (case a_require_chart => k_is); (case l_require_chart => k_is); (case c_require_chart => k_is); (case k_require_chart => k_is); (case a_check_arrangement => k_is); (case l_check_arrangement => k_is); (case c_check_arrangement => k_is); (case k_check_arrangement => k_is); (case a_may_stand_below => k_is); (case l_may_stand_below => k_is); (case c_may_stand_below => k_is); (case k_may_stand_below => k_is); (case a_require_arrangement => k_is); (case l_require_arrangement => k_is); (case c_require_arrangement => k_is); (case k_require_arrangement => k_is); (case a_post_of => k_is); (case l_post_of => k_is); (case c_post_of => k_is); (case k_post_of => k_is); (case a_is_open => k_is); (case l_is_open => k_is); (case c_is_open => k_is); (case k_is_open => k_is); (case a_open_posts => k_is); (case l_open_posts => k_is); (case c_open_posts => k_is); (case k_open_posts => k_is); (case a_l_cell => k_is); (case l_l_cell => k_is); (case c_l_cell => k_is); (case k_l_cell => k_is); (case a_l_hash => k_is); (case l_l_hash => k_is); (case c_l_hash => k_is); (case k_l_hash => k_is); (case a_l_generator => k_is); (case l_l_generator => k_is); (case c_l_generator => k_is); (case k_l_generator => k_is); (case a_l_random => k_is); (case l_l_random => k_is); (case c_l_random => k_is); (case k_l_random => k_is); (case a_l_random_chart => k_is); (case l_l_random_chart => k_is); (case c_l_random_chart => k_is); (case k_l_random_chart => k_is); (case a_l_names => k_is); (case l_l_names => k_is); (case c_l_names => k_is); (case k_l_names => k_is); (case a_l_open => k_is); (case l_l_open => k_is); (case c_l_open => k_is); (case k_l_open => k_is); (case a_l_filled => k_is); (case l_l_filled => k_is); (case c_l_filled => k_is); (case k_l_filled => k_is); (case a_l_random_rows => k_is); (case l_l_random_rows => k_is); (case c_l_random_rows => k_is); (case k_l_random_rows => k_is); (case a_l_held => k_is); (case l_l_held => k_is); (case c_l_held => k_is); (case k_l_held => k_is); (case a_l_right => k_is); (case l_l_right => k_is); (case c_l_right => k_is); (case k_l_right => k_is); (case a_law => k_is); (case l_law => k_is); (case c_law => k_is); (case k_law => k_is); (case z_bool => k_is); (case z_enumerate => k_is); (case z_int => k_is); (case z_isinstance => k_is); (case z_len => k_is); (case z_max => k_is); (case z_min => k_is); (case z_range => k_is); (case z_repr => k_is); (case z_set => k_is); (case z_sorted => k_is); (case z_str => k_is); (case z_tuple => k_is); (case kt => rfl)

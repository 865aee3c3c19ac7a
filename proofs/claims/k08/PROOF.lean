import PyProof.Rows.All
import Wide.All
import OpenK.AllK
import Wide.FinOn
import Lean
import PyProof.EqAt
import PyProof.EqKinds
import PyProof.TupleCall
import PyProof.NeKinds
import KE.KRevIter
import PyProof.SetKind
import PyProof.DictStraight
import PyProof.FactsAll.set_1
import PyProof.CollectWalk
import PyProof.WalksMore
import PyProof.Rows.SetFrom
import PyProof.Rows.SortShell
import PyProof.ListRange
import PyProof.Rows.SortWalk
import PyProof.FactsAll.set_2
import KE.KRevSl
import KE.KDictSum
import PyProof.ZipIter
import PyProof.Rows.FactsT2
import KE.KSortTup
import PyProof.EnumMake
import PyProof.EnumFor
import PyProof.SetRoads
import KE.KTryMore
import PyProof.ExcBaseAll.ValueError
import PyProof.ExcAttrAll.ValueError
import PyProof.ExcArgsOwn
import PySem.Challenge.RW_fallrow_k08_refused
set_option Elab.async false
set_option linter.all false
set_option maxRecDepth 100000
set_option maxHeartbeats 4000000
set_option genSizeOf false
set_option genInjectivity false
namespace L2
open PySem PySem.Spec PyProof.Rows

noncomputable abbrev Key := Sum Int Str
noncomputable def keyIs : Key → Value → Bool
  | .inl k, v => Value.isInt k v
  | .inr x, v => Value.isStrOf x v
noncomputable def keyH (w : World) : Key → Int
  | .inl k => hashInt k
  | .inr x => hashStr w x
theorem keyIs_shape : ∀ {k : Key} {v : Value}, keyIs k v = true → (∃ i t, k = Sum.inl i ∧ v = Value.int i t) ∨ (∃ x t, k = Sum.inr x ∧ v = Value.str x t)
  | .inl i, v, h => by
    obtain ⟨t, e⟩ := Value.isInt_shape (k := i) (v := v) h
    exact .inl ⟨i, t, rfl, e⟩
  | .inr x, v, h => by
    obtain ⟨t, e⟩ := Value.isStrOf_shape (x := x) (v := v) h
    exact .inr ⟨x, t, rfl, e⟩
theorem key_ll (a b : Int) : decide ((Sum.inl a : Key) = Sum.inl b) = (a == b) := by
  by_cases e : a = b
  · subst e; simp
  · have h : ¬ (Sum.inl a : Key) = Sum.inl b := fun q => e (Sum.inl.inj q)
    rw [decide_eq_false h]
    exact (beq_eq_false_iff_ne.mpr e).symm
theorem key_rr (a b : Str) : decide ((Sum.inr a : Key) = Sum.inr b) = decide (a = b) := by
  by_cases e : a = b
  · subst e; simp
  · have h : ¬ (Sum.inr a : Key) = Sum.inr b := fun q => e (Sum.inr.inj q)
    rw [decide_eq_false h, decide_eq_false e]
theorem key_lr (a : Int) (b : Str) : decide ((Sum.inl a : Key) = Sum.inr b) = false := decide_eq_false (fun q => nomatch q)
theorem key_rl (a : Str) (b : Int) : decide ((Sum.inr a : Key) = Sum.inl b) = false := decide_eq_false (fun q => nomatch q)

noncomputable def mixKind (prog : Program) (w : World) : PySem.KeyKind prog w Key where
  is := keyIs
  hash := keyH w
  inj := fun v a b ha hb => by
    rcases keyIs_shape ha with ⟨i, t, rfl, rfl⟩ | ⟨x, t, rfl, rfl⟩
    · rcases keyIs_shape hb with ⟨j, u, rfl, e⟩ | ⟨y, u, rfl, e⟩
      · injection e with e1 _; rw [e1]
      · exact nomatch e
    · rcases keyIs_shape hb with ⟨j, u, rfl, e⟩ | ⟨y, u, rfl, e⟩
      · exact nomatch e
      · injection e with e1 _; rw [e1]
  byValue := fun k v h => by
    rcases keyIs_shape h with ⟨i, t, rfl, rfl⟩ | ⟨x, t, rfl, rfl⟩ <;> rfl
  pyHash := fun hv h => by
    rcases keyIs_shape hv with ⟨i, t, rfl, rfl⟩ | ⟨x, t, rfl, rfl⟩
    · exact wpAny_pyHash_int h
    · exact wpAny_pyHash_str h
  eqBool := fun hu hv h => by
    rcases keyIs_shape hu with ⟨i, t, rfl, rfl⟩ | ⟨x, t, rfl, rfl⟩
    · rcases keyIs_shape hv with ⟨j, u, rfl, rfl⟩ | ⟨y, u, rfl, rfl⟩
      · rw [key_ll] at h; exact wpAny_eqBool_int h
      · rw [key_lr] at h; exact SeqAt.EqAt.int_str i t y u _ _ _ _ h
    · rcases keyIs_shape hv with ⟨j, u, rfl, rfl⟩ | ⟨y, u, rfl, rfl⟩
      · rw [key_rl] at h; exact SeqAt.EqAt.str_int x t j u _ _ _ _ h
      · rw [key_rr] at h; exact wpAny_eqBool_str h
  «strs» := fun k x t v h => by
    rcases keyIs_shape h with ⟨i, u, rfl, e⟩ | ⟨y, u, rfl, e⟩
    · exact nomatch e
    · injection e with e1 _
      subst e1
      cases v <;> rfl

end L2

namespace L2
open PySem PySem.Spec PyProof.Rows

set_option genInjectivity true in
inductive V where
  | non | bl (b : Bool) | int (i : Int) | str (x : Str) | byt (b : Array UInt8) | flt (b : UInt64) | ref (a : Addr) | ty (n : String)
  deriving DecidableEq

noncomputable def RelV : V → Value → Prop
  | .non, u => u = Value.none
  | .bl b, u => u = Value.bool b
  | .int i, u => ∃ t, u = Value.int i t
  | .str x, u => ∃ t, u = Value.str x t
  | .byt b, u => ∃ t, u = Value.bytes b t
  | .flt b, u => ∃ t, u = Value.float b t
  | .ref a, u => u = Value.ref a
  | .ty n, u => u = Value.type n

noncomputable abbrev Vals : List V → List Value → Prop := Paired RelV
theorem Vals.length {xs : List V} {us : List Value} (r : Vals xs us) : xs.length = us.length := Paired.length r
theorem Vals.get : ∀ {xs : List V} {us : List Value} {i : Nat} {x : V}, Vals xs us → xs[i]? = some x → ∃ u, us[i]? = some u ∧ RelV x u
  | _, _, _, _, .nil, e => by simp at e
  | _, _, 0, _, .cons r _, e => by simp at e; subst e; exact ⟨_, rfl, r⟩
  | _, _, i + 1, x, .cons _ t, e => by
    obtain ⟨u, h1, h2⟩ := Vals.get (i := i) (x := x) t (by simpa using e)
    exact ⟨u, by simpa using h1, h2⟩
theorem Vals.set {x : V} {u : Value} (r : RelV x u) : ∀ {xs : List V} {us : List Value} (i : Nat), Vals xs us → Vals (xs.set i x) (us.set i u)
  | _, _, _, .nil => .nil
  | _, _, 0, .cons _ t => .cons r t
  | _, _, i + 1, .cons q t => .cons q (Vals.set r i t)
theorem Vals.append : ∀ {xs ys : List V} {us ws : List Value}, Vals xs us → Vals ys ws → Vals (xs ++ ys) (us ++ ws)
  | _, _, _, _, .nil, s => s
  | _, _, _, _, .cons r t, s => .cons r (Vals.append t s)
theorem Vals.take : ∀ {xs : List V} {us : List Value} (n : Nat), Vals xs us → Vals (xs.take n) (us.take n)
  | _, _, 0, _ => .nil
  | _, _, _ + 1, .nil => .nil
  | _, _, n + 1, .cons r t => .cons r (Vals.take n t)
theorem Vals.drop : ∀ {xs : List V} {us : List Value} (n : Nat), Vals xs us → Vals (xs.drop n) (us.drop n)
  | _, _, 0, r => r
  | _, _, _ + 1, .nil => .nil
  | _, _, n + 1, .cons _ t => Vals.drop n t
noncomputable def RelO : Option V → Option Value → Prop
  | some v, some u => RelV v u
  | none, none => True
  | _, _ => False
noncomputable def KV {κ : Type} : List (κ × V) → List (κ × Value) → Prop := Paired fun (p : κ × V) (q : κ × Value) => p.1 = q.1 ∧ RelV p.2 q.2

noncomputable def kV : Key → V
  | .inl i => .int i
  | .inr x => .str x

inductive HO where
  | lst (xs : List V)
  | tup (xs : List V)
  | dK (kvs : List (Key × V)) | dT (kvs : List (List Key × V))
  | set (S : Int → Bool) (n : Nat)
  | ins (C dx : Addr) (fs : List (Str × V))
  | own (x : Addr)
  | xd (fs : List (Str × V))
  | met (f x : Addr)
  | rng (lo hi : Int)
  | frz (o : Obj) (u : HO)
  | tbl (ps : Array Value)
  | ext (φ : Heap → Prop)

noncomputable abbrev Hp := Addr → Option HO
noncomputable def upd (H : Hp) (a : Addr) (o : HO) : Hp := fun b => if b = a then some o else H b
theorem upd_same {H : Hp} {a : Addr} {o : HO} : upd H a o a = some o := by unfold upd; rw [if_pos rfl]
theorem upd_ne {H : Hp} {a b : Addr} {o : HO} (h : b ≠ a) : upd H a o b = H b := by unfold upd; rw [if_neg h]
theorem ne_of_none {H : Hp} {a b : Addr} {o : HO} (h : H a = some o) (h' : H b = none) : a ≠ b := by
  intro e; subst e; rw [h] at h'; cases h'

section
variable (P : Program) (w : World)
noncomputable def ObjOk (H : Hp) (h : Heap) (a : Addr) : HO → Prop
  | .lst xs => xs.length ≤ sizeLine ∧ ∃ (its : List Value) (n : Nat), Vals xs its ∧ h.get? a = some { cls := .type "list", data := .seq its.toArray n }
  | .tup xs => xs.length ≤ sizeLine ∧ ∃ its : List Value, Vals xs its ∧ IsTup h a its.toArray
  | .dK kvs => kvs.length ≤ sizeLine ∧ (a == sysModules) = false ∧ ∃ vs, KV kvs vs ∧ h.DictOf (mixKind P w) a vs
  | .dT kvs => kvs.length ≤ sizeLine ∧ (a == sysModules) = false ∧ ∃ xs : List (List Key × Addr × Value),
      Paired (fun (p : List Key × V) (q : List Key × Addr × Value) => p.1 = q.1 ∧ H q.2.1 = some (.tup (p.1.map kV)) ∧ RelV p.2 q.2.2) kvs xs ∧
      ∃ o es ep, h.get? a = some o ∧ o.ExactDict ∧ o.data = .dict es ep ∧ es.toList = xs.map (entryOfKey (tupleKind (mixKind P w))) ∧ (xs.map (·.1)).Nodup
  | .set S n => h.SetOf (intKind P w) a S n
  | .ins C dx fs => H dx = some (.own a) ∧ fs.length ≤ 1000 ∧ dx ≠ a ∧ h.get? a = some (PySem.W.instObj C dx) ∧
      ∃ mA, h.Ns1 dx mA ∧ (∀ f, RelO (fs.lookup f) (mA f)) ∧ PySem.Within mA (fs.map (·.1))
  | .own _ => ∃ o, h.get? a = some o
  | .xd fs => ∃ mA, h.Ns1 a mA ∧ ∀ f, RelO (fs.lookup f) (mA f)
  | .rng lo hi => ∃ t u v, h.get? a = some { cls := .type "range", data := .fields #[.int lo t, .int hi u, .int 1 v] }
  | .frz o u => h.get? a = some o ∧ ObjOk H h a u
  | .tbl ps => h.get? a = some { cls := .none, data := .fields ps }
  | .met f x => h.get? a = some (PySem.W.methodObj (.ref f) (.ref x))
  | .ext φ => φ h ∧ (∃ o, h.get? a = some o) ∧ ∀ h1 h2 : Heap, φ h1 → (∀ o, h1.get? a = some o → h2.get? a = some o) → φ h2
noncomputable def HOk (H : Hp) (h : Heap) : Prop := ∀ a o, H a = some o → ObjOk P w H h a o
end

section
variable {P : Program} {w : World} {H H' : Hp} {h h' : Heap} {a : Addr} {o : HO}
theorem ObjOk.lt (x : ObjOk P w H h a o) : a < h.objs.size := by
  cases o with
  | lst xs => obtain ⟨_, _, _, _, e⟩ := x; exact Heap.lt_size e
  | tup xs => obtain ⟨_, _, _, p⟩ := x; exact p.lt
  | dK kvs => obtain ⟨_, _, _, _, o, _, _, e, _⟩ := x; exact Heap.lt_size e
  | dT kvs => obtain ⟨_, _, _, _, o, _, _, e, _⟩ := x; exact Heap.lt_size e
  | set S n => obtain ⟨o, _, _, _, e, _⟩ := x; exact Heap.lt_size e
  | ins C dx fs => obtain ⟨_, _, _, e, _⟩ := x; exact Heap.lt_size e
  | own y => obtain ⟨_, e⟩ := x; exact Heap.lt_size e
  | xd fs => obtain ⟨_, ⟨_, _, _, e, _⟩, _⟩ := x; exact Heap.lt_size e
  | rng lo hi => obtain ⟨_, _, _, e⟩ := x; exact Heap.lt_size e
  | frz ob u => obtain ⟨e, _⟩ := x; exact Heap.lt_size e
  | tbl ps => exact Heap.lt_size (show h.get? a = some _ from x)
  | met f y => exact Heap.lt_size (show h.get? a = some _ from x)
  | ext φ => obtain ⟨_, ⟨_, e⟩, _⟩ := x; exact Heap.lt_size e
theorem Paired.mapP {α β : Type} {F G : α → β → Prop} : ∀ {l₁ : List α} {l₂ : List β}, Paired F l₁ l₂ → (∀ a b, F a b → G a b) → Paired G l₁ l₂
  | _, _, .nil, _ => .nil
  | _, _, .cons r t, f => .cons (f _ _ r) (Paired.mapP t f)
theorem ObjOk.stay (x : ObjOk P w H h a o) (k : ∀ b u, (b = a ∨ H b = some (.own a)) → h.get? b = some u → h'.get? b = some u)
    (ho : ∀ b, H b = some (.own a) → H' b = some (.own a)) (ht : ∀ b xs, H b = some (.tup xs) → H' b = some (.tup xs)) : ObjOk P w H' h' a o := by
  induction o with
  | lst xs => obtain ⟨z, its, n, r, e⟩ := x; exact ⟨z, its, n, r, k _ _ (.inl rfl) e⟩
  | tup xs => obtain ⟨z, its, r, ob, e, c⟩ := x; exact ⟨z, its, r, ob, k _ _ (.inl rfl) e, c⟩
  | dK kvs => obtain ⟨z, y, vs, r, ob, es, ep, e, c⟩ := x; exact ⟨z, y, vs, r, ob, es, ep, k _ _ (.inl rfl) e, c⟩
  | dT kvs =>
    obtain ⟨z, y, xs, r, ob, es, ep, e, c⟩ := x
    exact ⟨z, y, xs, Paired.mapP r fun p q z => ⟨z.1, ht _ _ z.2.1, z.2.2⟩, ob, es, ep, k _ _ (.inl rfl) e, c⟩
  | set S n => obtain ⟨ob, es, ep, t, e, c⟩ := x; exact ⟨ob, es, ep, t, k _ _ (.inl rfl) e, c⟩
  | ins C dx fs =>
    obtain ⟨d, z, ne, e, mA, ⟨od, es, ep, e2, c⟩, r⟩ := x
    exact ⟨ho _ d, z, ne, k _ _ (.inl rfl) e, mA, ⟨od, es, ep, k _ _ (.inr d) e2, c⟩, r⟩
  | own y => obtain ⟨ob, e⟩ := x; exact ⟨ob, k _ _ (.inl rfl) e⟩
  | xd fs => obtain ⟨mA, ⟨od, es, ep, e, c⟩, r⟩ := x; exact ⟨mA, ⟨od, es, ep, k _ _ (.inl rfl) e, c⟩, r⟩
  | rng lo hi => obtain ⟨t, u, v, e⟩ := x; exact ⟨t, u, v, k _ _ (.inl rfl) e⟩
  | frz ob u ih => obtain ⟨e, q⟩ := x; exact ⟨k _ _ (.inl rfl) e, ih q⟩
  | tbl ps =>
    have e : h.get? a = some { cls := .none, data := .fields ps } := x
    show h'.get? a = some { cls := .none, data := .fields ps }
    exact k a _ (.inl rfl) e
  | met f y =>
    have e : h.get? a = some (PySem.W.methodObj (.ref f) (.ref y)) := x
    show h'.get? a = some (PySem.W.methodObj (.ref f) (.ref y))
    exact k a _ (.inl rfl) e
  | ext φ => obtain ⟨p, ⟨o, e⟩, st⟩ := x; exact ⟨st _ _ p fun o q => k _ _ (.inl rfl) q, ⟨o, k _ _ (.inl rfl) e⟩, st⟩
theorem HOk.lt (x : HOk P w H h) (e : H a = some o) : a < h.objs.size := (x a o e).lt
theorem HOk.fresh (x : HOk P w H h) (e : h.objs.size ≤ a) : H a = none := by
  cases q : H a with
  | none => rfl
  | some u => exact absurd (Nat.lt_of_lt_of_le (x.lt q) e) (Nat.lt_irrefl _)
theorem HOk.kept (x : HOk P w H h) (k : ∀ b u, h.get? b = some u → h'.get? b = some u) : HOk P w H h' := fun a o e =>
  (x a o e).stay (fun b u _ q => k b u q) (fun _ q => q) fun _ _ q => q
theorem HOk.laid (x : HOk P w H h) (k : ∀ b u, h.get? b = some u → h'.get? b = some u) (hp : h.objs.size ≤ a) (new : ObjOk P w (upd H a o) h' a o) : HOk P w (upd H a o) h' := fun b u e => by
  have hn := x.fresh hp
  by_cases hb : b = a
  · subst hb; rw [upd_same] at e; cases e; exact new
  · rw [upd_ne hb] at e
    exact (x b u e).stay (fun c v _ q => k c v q) (fun c q => by rw [upd_ne (ne_of_none q hn)]; exact q) fun c xs q => by rw [upd_ne (ne_of_none q hn)]; exact q
end

noncomputable def Rd (H : Hp) (a : Addr) (u : HO) : Prop := H a = some u ∨ ∃ o, H a = some (.frz o u)
theorem Rd.of {H : Hp} {a : Addr} {u : HO} (h : H a = some u) : Rd H a u := .inl h
theorem Rd.ok {P : Program} {w : World} {H : Hp} {h : Heap} {a : Addr} {u : HO} (r : Rd H a u) (x : HOk P w H h) : ObjOk P w H h a u := by
  rcases r with r | ⟨o, r⟩
  · exact x a u r
  · obtain ⟨_, q⟩ := x a _ r
    exact q
noncomputable def Mut : Option HO → Prop
  | some (.lst _) => True
  | some (.dK _) => True
  | some (.dT _) => True
  | some (.set _ _) => True
  | some (.ins _ _ _) => True
  | some (.ext _) => True
  | _ => False
section
variable {P : Program} {w : World} {H : Hp} {h h' : Heap} {x e : Addr} {o' : HO}
theorem HOk.write (ok : HOk P w H h) (mu : Mut (H x)) (he : e = x ∨ H e = some (.own x)) (k : ∀ b u, b ≠ e → h.get? b = some u → h'.get? b = some u) (heo : ∃ u, h'.get? e = some u)
    (new : ObjOk P w (upd H x o') h' x o') : HOk P w (upd H x o') h' := fun b u q => by
  have nown : ∀ c y, H c = some (.own y) → c ≠ x := fun c y r z => by subst z; rw [r] at mu; exact mu
  have ntup : ∀ c xs, H c = some (.tup xs) → c ≠ x := fun c xs r z => by subst z; rw [r] at mu; exact mu
  by_cases hb : b = x
  · subst hb; rw [upd_same] at q; cases q; exact new
  · rw [upd_ne hb] at q
    by_cases hbe : b = e
    · have q' : H b = some (.own x) := by
        rcases he with z | z
        · exact absurd (hbe.trans z) hb
        · rw [hbe]; exact z
      rw [q] at q'; cases q'
      obtain ⟨v, hv⟩ := heo
      exact ⟨v, by rw [hbe]; exact hv⟩
    · refine (ok b u q).stay (fun c v hc r => k c v ?_ r) (fun c r => by rw [upd_ne (nown c b r)]; exact r) fun c xs r => by rw [upd_ne (ntup c xs r)]; exact r
      rcases hc with rfl | hc
      · exact hbe
      · rintro rfl
        rcases he with z | z
        · exact nown c b hc z
        · rw [hc] at z; cases z; exact hb rfl
end

structure Un (fs ex : List Addr) (H H' : Hp) (h h' : Heap) : Prop where
  keep : ∀ b o, h.get? b = some o → H b = none → b ∉ fs → b ∉ ex → h'.get? b = some o
  slot : ∀ b o, h.get? b = some o → H b = none → b ∈ fs → b ∉ ex → ∃ sl, h'.get? b = some { o with slots := sl }
  free : ∀ b o, h.get? b = some o → H b = none → b ∉ ex → H' b = none
  there : ∀ b o, h.get? b = some o → b ∉ ex → ∃ o', h'.get? b = some o'
  tups : ∀ b xs, H b = some (.tup xs) → H' b = some (.tup xs)
  frzs : ∀ b o u, H b = some (.frz o u) → H' b = some (.frz o u)
  tbls : ∀ b ps, H b = some (.tbl ps) → ∃ more, H' b = some (.tbl (ps ++ more))
section
variable {fs fs' ex ex' : List Addr} {H H1 H2 : Hp} {h h1 h2 h' : Heap} {a x e : Addr} {o : HO}
theorem Un.any (u : Un fs ex H H1 h h1) {b : Addr} {ob : Obj} (q : h.get? b = some ob) (n : H b = none) (hx : b ∉ ex) : ∃ sl, h1.get? b = some { ob with slots := sl } := by
  by_cases hb : b ∈ fs
  · exact u.slot b ob q n hb hx
  · exact ⟨ob.slots, u.keep b ob q n hb hx⟩
theorem Un.trans (a : Un fs ex H H1 h h1) (b : Un fs ex H1 H2 h1 h2) : Un fs ex H H2 h h2 where
  keep := fun c ob q n hc hx => b.keep c ob (a.keep c ob q n hc hx) (a.free c ob q n hx) hc hx
  slot := fun c ob q n hc hx => by
    obtain ⟨sl, e1⟩ := a.slot c ob q n hc hx
    obtain ⟨sl', e2⟩ := b.slot c _ e1 (a.free c ob q n hx) hc hx
    exact ⟨sl', e2⟩
  free := fun c ob q n hx => by
    obtain ⟨o', e1⟩ := a.there c ob q hx
    exact b.free c o' e1 (a.free c ob q n hx) hx
  there := fun c ob q hx => by
    obtain ⟨o', e1⟩ := a.there c ob q hx
    exact b.there c o' e1 hx
  tups := fun c xs q => b.tups c xs (a.tups c xs q)
  frzs := fun c ob xs q => b.frzs c ob xs (a.frzs c ob xs q)
  tbls := fun c ps q => by
    obtain ⟨m1, e1⟩ := a.tbls c ps q
    obtain ⟨m2, e2⟩ := b.tbls c _ e1
    exact ⟨m1 ++ m2, by rw [e2, Array.append_assoc]⟩
theorem Un.kept (k : ∀ b u, h.get? b = some u → h'.get? b = some u) : Un fs ex H H h h' :=
  ⟨fun b ob q _ _ _ => k b ob q, fun b ob q _ _ _ => ⟨ob.slots, k b ob q⟩, fun _ _ _ n _ => n, fun b ob q _ => ⟨ob, k b ob q⟩, fun _ _ q => q, fun _ _ _ q => q, fun _ ps q => ⟨#[], by rw [q]; simp⟩⟩
theorem Un.refl : Un fs ex H H h h := Un.kept fun _ _ q => q
theorem Un.laid (k : ∀ b u, h.get? b = some u → h'.get? b = some u) (hp : h.objs.size ≤ a) (hn : H a = none) : Un fs ex H (upd H a o) h h' where
  keep := fun b u q _ _ _ => k b u q
  slot := fun b u q _ _ _ => ⟨u.slots, k b u q⟩
  free := fun b u q n _ => by rw [upd_ne (Nat.ne_of_lt (Nat.lt_of_lt_of_le (Heap.lt_size q) hp))]; exact n
  there := fun b u q _ => ⟨u, k b u q⟩
  tups := fun b xs q => by rw [upd_ne (ne_of_none q hn)]; exact q
  frzs := fun b u xs q => by rw [upd_ne (ne_of_none q hn)]; exact q
  tbls := fun b ps q => ⟨#[], by rw [upd_ne (ne_of_none q hn), q]; simp⟩
theorem Un.write (mu : Mut (H x)) (he : e = x ∨ H e = some (.own x)) (k : ∀ b u, b ≠ e → h.get? b = some u → h'.get? b = some u) (heo : ∃ u, h'.get? e = some u) : Un fs ex H (upd H x o) h h' := by
  have hx : ∀ b, H b = none → b ≠ x := fun b n z => by subst z; rw [n] at mu; exact mu
  have hb : ∀ b, H b = none → b ≠ e := fun b n z => by
    subst z
    rcases he with r | r
    · exact hx b n r
    · rw [n] at r; cases r
  have hm : ∀ b u, H b = some u → ¬ Mut (some u) → b ≠ x := fun b u q nm z => by subst z; rw [q] at mu; exact nm mu
  refine ⟨fun b u q n _ _ => k b u (hb b n) q, fun b u q n _ _ => ⟨u.slots, k b u (hb b n) q⟩, fun b u q n _ => by rw [upd_ne (hx b n)]; exact n, fun b u q _ => ?_,
    fun b xs q => by rw [upd_ne (hm b _ q fun z => z)]; exact q, fun b u xs q => by rw [upd_ne (hm b _ q fun z => z)]; exact q, fun b ps q => ⟨#[], by rw [upd_ne (hm b _ q fun z => z), q]; simp⟩⟩
  by_cases hbe : b = e
  · subst hbe; exact heo
  · exact ⟨u, k b u hbe q⟩
theorem Un.mono (u : Un fs ex H H1 h h1) (hs : ∀ b ∈ fs, b ∈ fs') (hx : ∀ b ∈ ex, b ∈ ex') : Un fs' ex' H H1 h h1 :=
  ⟨fun b ob q n hb he => u.keep b ob q n (fun z => hb (hs b z)) fun z => he (hx b z), fun _ _ q n _ he => u.any q n fun z => he (hx _ z), fun b ob q n he => u.free b ob q n fun z => he (hx b z), fun b ob q he => u.there b ob q fun z => he (hx b z), u.tups, u.frzs, u.tbls⟩
end

noncomputable def trk (h : Heap) (H : Hp) : List Addr := (List.range h.objs.size).filter fun a => (H a).isSome
noncomputable def hidT (h : Heap) (H : Hp) : Heap := PySem.W.hideAll h (trk h H)
theorem hidT_size (h : Heap) (H : Hp) : (hidT h H).objs.size = h.objs.size := PySem.W.hideAll_size _ _
theorem hidT_get {h : Heap} {H : Hp} {b : Addr} {o : Obj} (e : h.get? b = some o) (n : H b = none) : (hidT h H).get? b = some o :=
  PySem.W.hideAll_get _ e fun hm => by
    have q : (H b).isSome = true := (List.mem_filter.mp hm).2
    rw [n] at q; simp at q
theorem of_hidT {h : Heap} {H : Hp} {b : Addr} {o : Obj} (e : (hidT h H).get? b = some o) : h.get? b = some o ∧ H b = none := by
  have e' : h.get? b = some o := PySem.W.of_hideAll (trk h H) e
  refine ⟨e', ?_⟩
  cases q : H b with
  | none => rfl
  | some x =>
    have hm : b ∈ trk h H := List.mem_filter.mpr ⟨List.mem_range.mpr (Heap.lt_size e'), by simp [q]⟩
    have z : (hidT h H).get? b = none := PySem.W.hideAll_none (trk h H) hm
    rw [z] at e; cases e

noncomputable def allNews (g h : Heap) (L : Addr) : List (Addr × Obj) := (List.range h.objs.size).filterMap fun a => if a = L ∨ (g.get? a).isSome = true then none else (h.get? a).map fun o => (a, o)
noncomputable def rest (g h : Heap) (L d : Addr) : List (Addr × Obj) := (allNews g h L).filter fun p => decide (p.1 ≠ d)
end L2

namespace L2
open PySem PySem.Spec PyProof.Rows

structure Mod (K : PySem.W.Frag) (mg : Str → Option Value) (base : Heap) : Prop where
  kin : K.In base
  glob : base.Ns mainGlobals mg
  blt : ∃ mb, base.Ns builtinsNs mb ∧ ∀ x : Str, x ≠ "__name__" → mb x = bootBuiltins x
  nolimit : base.NoLimit

/-- the context: a def's body (or a comprehension's block) running. base: fixed through the whole law; s₀, H₀: the entry; outer: the frames whose slots others may change (a def's callers); stack: all frames that run;
   ex: iterators that were made ahead of the entry and are walked here (a comprehension's); fn: the names whose cells were made at the entry (a def: all; a comprehension's block: its own); calm: not within an except suite; pn: pins that every state bears; xe: what is wanted of an exception that leaves the code -/
structure Cx where
  prog : Program
  w : World
  K : PySem.W.Frag
  mg : Str → Option Value
  base : Heap
  A : Around
  N : List Str
  s₀ : Shared
  H₀ : Hp
  env : Env
  outer : List Env
  stack : List Env
  ex : List Addr
  fn : Str → Bool
  calm : Bool
  pn : List (Addr × Obj)
  xe : Value → Shared → Prop
noncomputable def frs (l : List Env) : List Addr := l.filterMap (·.frame)
noncomputable abbrev Cx.fs (X : Cx) : List Addr := frs X.outer

noncomputable def Vis (sc : Scope) (x : Str) : Prop := sc.names.lookup x = some .local ∨ sc.names.lookup x = some .cell ∨ sc.names.lookup x = some .free
noncomputable def Loc (sc : Scope) (x : Str) : Prop := sc.names.lookup x = some .local ∨ sc.names.lookup x = some .cell
noncomputable def Look (env : Env) (h : Heap) (m : Str → Option Value) (x : Str) (u : Value) : Prop :=
  (env.kindOf x = some .local ∧ m x = some u) ∨ ((env.kindOf x = some .cell ∨ env.kindOf x = some .free) ∧ ∃ c, env.cells.lookup x = some c ∧ h.IsCell c (some u))

structure Cx.Ok (X : Cx) : Prop where
  mod : Mod X.K X.mg X.base
  kind : X.env.scope.kind = .function
  glob : X.env.globals = mainGlobals
  blt : X.env.builtins = builtinsNs
  above : X.s₀.heap.objs.size ≤ X.env.locals
  inj : ∀ x y c, X.env.cells.lookup x = some c → X.env.cells.lookup y = some c → x = y
  has : ∀ x, (X.env.kindOf x = some .cell ∨ X.env.kindOf x = some .free) → ∃ c, X.env.cells.lookup x = some c
  cab : ∀ x c, X.fn x = true → X.env.cells.lookup x = some c → X.s₀.heap.objs.size ≤ c
  hd : X.calm = true → X.A.handled = none
  frames : X.A.frames = some X.stack
  stk : X.stack = X.outer ∨ (X.stack = X.env :: X.outer ∧ X.env.frame = some X.env.locals)
  exf : ∀ b ∈ X.ex, b ≠ X.env.locals ∧ ∀ x c, X.env.cells.lookup x = some c → c ≠ b
  bs : ∀ b o, X.base.get? b = some o → X.s₀.heap.get? b = some o ∧ X.H₀ b = none
  bsz : X.base.objs.size ≤ X.s₀.heap.objs.size
  noex : ∀ b o, X.base.get? b = some o → b ∉ X.ex
  exfs : ∀ b ∈ X.ex, b ∉ X.fs
  funs : X.s₀.heap.FunFrames X.base X.outer
  frf : ∀ b ∈ X.fs, X.H₀ b = none

structure Inv (X : Cx) (pins : List (Addr × Obj)) (σ : List (Option V)) (H : Hp) (s : Shared) : Prop where
  ok : X.Ok
  os : s.os = X.s₀.os
  bare : AllBare s.gens
  base : Un X.fs X.ex X.H₀ H X.s₀.heap s.heap
  loc : ∃ m, s.heap.Ns X.env.locals m ∧ ∀ (i : Nat) (x : Str) (v : V), X.N[i]? = some x → σ[i]? = some (some v) → Vis X.env.scope x → ∃ u, RelV v u ∧ Look X.env s.heap m x u
  cell : ∀ x c, X.env.cells.lookup x = some c → ∃ v, s.heap.IsCell c v
  free : H X.env.locals = none
  freeC : ∀ x c, X.env.cells.lookup x = some c → H c = none
  pin : ∀ p ∈ X.pn ++ pins, s.heap.get? p.1 = some p.2 ∧ H p.1 = none ∧ p.1 ≠ X.env.locals ∧ p.1 ∉ X.fs ∧ ∀ v, p.2.data ≠ .cell v
  hok : HOk X.prog X.w H s.heap
  len : σ.length = X.N.length

section
variable {X : Cx} {pins : List (Addr × Obj)} {σ : List (Option V)} {H H' : Hp} {s : Shared} {h' : Heap}

theorem Cx.Ok.nofr (ok : X.Ok) {b : Addr} {o : Obj} (e : X.base.get? b = some o) : b ∉ X.fs := fun hb => by
  have := (ok.funs.mem hb).1
  rw [e] at this; cases this
theorem Inv.bs (I : Inv X pins σ H s) : ∀ b o, X.base.get? b = some o → s.heap.get? b = some o ∧ H b = none := fun b o e =>
  ⟨I.base.keep b o (I.ok.bs b o e).1 (I.ok.bs b o e).2 (I.ok.nofr e) (I.ok.noex b o e), I.base.free b o (I.ok.bs b o e).1 (I.ok.bs b o e).2 (I.ok.noex b o e)⟩
theorem Inv.bk (I : Inv X pins σ H s) : ∀ b o, X.base.get? b = some o → s.heap.get? b = some o := fun b o e => (I.bs b o e).1
theorem Inv.mod (I : Inv X pins σ H s) : Mod X.K X.mg X.base := I.ok.mod
theorem Inv.kIn (I : Inv X pins σ H s) : X.K.In s.heap := I.ok.mod.kin.keeps I.bk
theorem Inv.nolimit (I : Inv X pins σ H s) : s.heap.NoLimit := I.ok.mod.nolimit.keeps I.bk
theorem Inv.fr (I : Inv X pins σ H s) : ∃ m, Fr X.base X.env.locals s.heap m :=
  let ⟨m, hn, _⟩ := I.loc
  ⟨m, hn, I.bk, Nat.le_trans I.ok.bsz I.ok.above⟩
theorem Inv.lt (I : Inv X pins σ H s) : X.env.locals < s.heap.objs.size := let ⟨_, hn, _⟩ := I.loc; hn.lt
theorem Inv.sz (I : Inv X pins σ H s) : X.s₀.heap.objs.size ≤ s.heap.objs.size := Nat.le_trans I.ok.above (Nat.le_of_lt I.lt)
theorem Inv.nofs (I : Inv X pins σ H s) {a : Addr} (h : s.heap.objs.size ≤ a) : a ∉ X.fs := fun hb => by
  obtain ⟨_, o, ho, _⟩ := I.ok.funs.mem hb
  exact absurd (Nat.lt_of_lt_of_le (Heap.lt_size ho) (Nat.le_trans I.sz h)) (Nat.lt_irrefl _)
theorem Inv.cne (I : Inv X pins σ H s) : ∀ x c, X.env.cells.lookup x = some c → c ≠ X.env.locals := fun x c e z => by
  obtain ⟨v, o, ho, hd⟩ := I.cell x c e
  obtain ⟨m, ⟨o', es, ep, ho', hd', _⟩, _⟩ := I.loc
  rw [z, ho'] at ho; cases ho; rw [hd'] at hd; cases hd
theorem Inv.funs (I : Inv X pins σ H s) : s.heap.FunFrames X.base X.outer := by
  have all : ∀ (l : List Env), (∀ b ∈ frs l, b ∈ X.fs) → X.s₀.heap.FunFrames X.base l → s.heap.FunFrames X.base l := by
    intro l
    induction l with
    | nil => intro _ _; trivial
    | cons env r ih =>
      intro hs hl
      obtain ⟨hk, ⟨L, o, hf, hn, ho, hd⟩, hr⟩ := hl
      have hL : L ∈ X.fs := hs L (by unfold frs; rw [List.filterMap_cons, hf]; exact List.mem_cons_self)
      obtain ⟨sl, e⟩ := I.base.slot L o ho (I.ok.frf L hL) hL fun z => I.ok.exfs L z hL
      exact ⟨hk, ⟨L, _, hf, hn, e, hd⟩, ih (fun b hb => hs b (by unfold frs; rw [List.filterMap_cons, hf]; exact List.mem_cons_of_mem _ hb)) hr⟩
  exact all X.outer (fun _ hb => hb) I.ok.funs

theorem Inv.stack (I : Inv X pins σ H s) : s.heap.FunFrames X.base X.stack := by
  rcases I.ok.stk with e | ⟨e, hf⟩
  · rw [e]; exact I.funs
  · rw [e]
    obtain ⟨m, hn, _⟩ := I.loc
    refine .cons (by rw [I.ok.kind]; decide) hf hn ?_ I.funs
    exact Heap.get?_none_of_le (Nat.le_trans I.ok.bsz I.ok.above)
theorem Inv.stkSub (I : Inv X pins σ H s) : ∀ b ∈ frs X.stack, b ∈ X.env.locals :: X.fs := fun b hb => by
  rcases I.ok.stk with e | ⟨e, hf⟩
  · rw [e] at hb; exact List.mem_cons_of_mem _ hb
  · rw [e] at hb
    unfold frs at hb
    rw [List.filterMap_cons, hf] at hb
    exact hb
theorem Inv.stkFree (I : Inv X pins σ H s) : ∀ b ∈ frs X.stack, H b = none := fun b hb => by
  rcases List.mem_cons.mp (I.stkSub b hb) with e | hb
  · rw [e]; exact I.free
  · obtain ⟨_, o, ho, _⟩ := I.ok.funs.mem hb
    exact I.base.free b o ho (I.ok.frf b hb) fun z => I.ok.exfs b z hb

theorem Inv.step {g' : Array GenState} {t' : Nat} {d' : Drawn} {ch : List Addr} (I : Inv X pins σ H s)
    (hch : ∀ b ∈ ch, (b ∈ X.ex ∨ X.s₀.heap.objs.size ≤ b) ∧ b ≠ X.env.locals ∧ (∀ x c, X.env.cells.lookup x = some c → c ≠ b) ∧ ∀ p ∈ X.pn ++ pins, p.1 ≠ b)
    (keep : ∀ b o, b ≠ X.env.locals → b ∉ X.fs → b ∉ ch → s.heap.get? b = some o → H b = none → h'.get? b = some o)
    (slot : ∀ b o, b ≠ X.env.locals → b ∈ X.fs → b ∉ ch → s.heap.get? b = some o → H b = none → ∃ sl, h'.get? b = some { o with slots := sl }) (free : ∀ b o, b ∉ ch → s.heap.get? b = some o → H b = none → H' b = none)
    (there : ∀ b o, b ∉ ch → s.heap.get? b = some o → ∃ o', h'.get? b = some o')
    (tups : ∀ b xs, H b = some (.tup xs) → H' b = some (.tup xs)) (frzs : ∀ b o u, H b = some (.frz o u) → H' b = some (.frz o u)) (tbls : ∀ b ps, H b = some (.tbl ps) → ∃ more, H' b = some (.tbl (ps ++ more)))
    (ns : ∀ m, s.heap.Ns X.env.locals m → h'.Ns X.env.locals m) (hok : HOk X.prog X.w H' h') (hg : AllBare g') :
    Inv X pins σ H' { s with heap := h', gens := g', drawn := d', toks := t' } := by
  have neL : ∀ b o, X.s₀.heap.get? b = some o → b ≠ X.env.locals := fun b o e => Nat.ne_of_lt (Nat.lt_of_lt_of_le (Heap.lt_size e) I.ok.above)
  have neC : ∀ b o, X.s₀.heap.get? b = some o → b ∉ X.ex → b ∉ ch := fun b o e hx hb => by
    rcases (hch b hb).1 with z | z
    · exact hx z
    · exact absurd (Nat.lt_of_lt_of_le (Heap.lt_size e) z) (Nat.lt_irrefl _)
  have cellK : ∀ x c, X.env.cells.lookup x = some c → ∀ v, s.heap.IsCell c v → h'.IsCell c v := fun x c e v ⟨o, ho, hd⟩ => by
    have nch : c ∉ ch := fun z => (hch c z).2.2.1 x c e rfl
    by_cases hc : c ∈ X.fs
    · obtain ⟨sl, q⟩ := slot c o (I.cne x c e) hc nch ho (I.freeC x c e)
      exact ⟨_, q, hd⟩
    · exact ⟨o, keep c o (I.cne x c e) hc nch ho (I.freeC x c e), hd⟩
  refine ⟨I.ok, I.os, hg, ⟨fun b o e n hb hx => ?_, fun b o e n hb hx => ?_, fun b o e n hx => ?_, fun b o e hx => ?_, fun b xs e => tups b xs (I.base.tups b xs e), fun b o xs e => frzs b o xs (I.base.frzs b o xs e), fun b ps e => ?_⟩, ?_, fun x c e => ?_, ?_, fun x c e => ?_, fun p hp => ?_, hok, I.len⟩
  · exact keep b o (neL b o e) hb (neC b o e hx) (I.base.keep b o e n hb hx) (I.base.free b o e n hx)
  · obtain ⟨sl, e1⟩ := I.base.slot b o e n hb hx
    obtain ⟨sl', e2⟩ := slot b _ (neL b o e) hb (neC b o e hx) e1 (I.base.free b o e n hx)
    exact ⟨sl', e2⟩
  · obtain ⟨o', e1⟩ := I.base.there b o e hx
    exact free b o' (neC b o e hx) e1 (I.base.free b o e n hx)
  · obtain ⟨o', e1⟩ := I.base.there b o e hx
    exact there b o' (neC b o e hx) e1
  · obtain ⟨m1, e1⟩ := I.base.tbls b ps e
    obtain ⟨m2, e2⟩ := tbls b _ e1
    exact ⟨m1 ++ m2, by rw [e2, Array.append_assoc]⟩
  · obtain ⟨m, hn, hl⟩ := I.loc
    refine ⟨m, ns m hn, fun i x v e1 e2 e3 => ?_⟩
    obtain ⟨u, r, l⟩ := hl i x v e1 e2 e3
    refine ⟨u, r, ?_⟩
    rcases l with l | ⟨k, c, e, z⟩
    · exact .inl l
    · exact .inr ⟨k, c, e, cellK x c e _ z⟩
  · obtain ⟨v, z⟩ := I.cell x c e
    exact ⟨v, cellK x c e v z⟩
  · obtain ⟨m, ⟨o, _, _, ho, _⟩, _⟩ := I.loc
    exact free _ o (fun z => (hch _ z).2.1 rfl) ho I.free
  · obtain ⟨v, o, ho, hd⟩ := I.cell x c e
    exact free c o (fun z => (hch c z).2.2.1 x c e rfl) ho (I.freeC x c e)
  · obtain ⟨e, n, ne, nf, d⟩ := I.pin p hp
    have nch : p.1 ∉ ch := fun z => (hch p.1 z).2.2.2 p hp rfl
    exact ⟨keep p.1 p.2 ne nf nch e n, free p.1 p.2 nch e n, ne, nf, d⟩
theorem Inv.un {t' : Nat} (I : Inv X pins σ H s) (u : Un X.fs [] H H' s.heap h') (hok : HOk X.prog X.w H' h') : Inv X pins σ H' { s with heap := h', toks := t' } := by
  obtain ⟨m, ⟨o, es, ep, ho, r⟩, _⟩ := id I.loc
  obtain ⟨sl, hL⟩ := u.any ho I.free (by simp)
  exact I.step (g' := s.gens) (d' := s.drawn) (ch := []) (fun _ z => nomatch z) (fun b o _ hb _ e n => u.keep b o e n hb (by simp)) (fun b o _ hb _ e n => u.slot b o e n hb (by simp)) (fun b o _ e n => u.free b o e n (by simp)) (fun b o _ e => u.there b o e (by simp)) u.tups u.frzs u.tbls (fun m' hm => by
    obtain ⟨o', es', ep', ho', r'⟩ := hm
    rw [ho] at ho'; cases ho'
    exact ⟨_, es', ep', hL, r'⟩) hok I.bare
theorem Inv.call {g' : Array GenState} {t' : Nat} {d' : Drawn} {ch : List Addr} (I : Inv X pins σ H s) (u : Un (frs X.stack) ch H H' s.heap h') (hok : HOk X.prog X.w H' h') (hg : AllBare g')
    (hch : ∀ b ∈ ch, (b ∈ X.ex ∨ X.s₀.heap.objs.size ≤ b) ∧ b ≠ X.env.locals ∧ (∀ x c, X.env.cells.lookup x = some c → c ≠ b) ∧ ∀ p ∈ X.pn ++ pins, p.1 ≠ b) :
    Inv X pins σ H' { s with heap := h', gens := g', drawn := d', toks := t' } := by
  obtain ⟨m, ⟨o, es, ep, ho, r⟩, _⟩ := id I.loc
  obtain ⟨sl, hL⟩ := u.any ho I.free fun z => (hch _ z).2.1 rfl
  exact I.step (ch := ch) hch (fun b o hL hb hc e n => u.keep b o e n (fun z => (List.mem_cons.mp (I.stkSub b z)).elim hL hb) hc) (fun b o _ _ hc e n => u.any e n hc) (fun b o hc e n => u.free b o e n hc) (fun b o hc e => u.there b o e hc) u.tups u.frzs u.tbls (fun m' hm => by
    obtain ⟨o', es', ep', ho', r'⟩ := hm
    rw [ho] at ho'; cases ho'
    exact ⟨_, es', ep', hL, r'⟩) hok hg
theorem Inv.turned {t' : Nat} {it : Addr} (I : Inv X pins σ H s) (k : ∀ b o, b ≠ it → s.heap.get? b = some o → h'.get? b = some o) (hn : H it = none) (hL : it ≠ X.env.locals)
    (h1 : it ∈ X.ex ∨ X.s₀.heap.objs.size ≤ it) (h2 : ∀ x c, X.env.cells.lookup x = some c → c ≠ it) (h3 : ∀ p ∈ X.pn ++ pins, p.1 ≠ it) : Inv X pins σ H { s with heap := h', toks := t' } := by
  have nit : ∀ b u, H b = some u → b ≠ it := fun b u e z => by rw [z, hn] at e; cases e
  refine I.step (g' := s.gens) (d' := s.drawn) (ch := [it]) (fun b hb => ?_) (fun b o _ _ hc e _ => k b o (fun z => hc (by simp [z])) e) (fun b o _ _ hc e _ => ⟨o.slots, k b o (fun z => hc (by simp [z])) e⟩) (fun _ _ _ _ n => n)
    (fun b o hc e => ⟨o, k b o (fun z => hc (by simp [z])) e⟩) (fun _ _ e => e) (fun _ _ _ e => e) (fun b ps e => ⟨#[], by rw [e]; simp⟩) (fun m hm => ?_) (fun b u e => ?_) I.bare
  · have e : b = it := by simpa using hb
    subst e
    exact ⟨h1, hL, h2, h3⟩
  · obtain ⟨o, es, ep, ho, r⟩ := hm
    exact ⟨o, es, ep, k _ o (Ne.symm hL) ho, r⟩
  · refine (I.hok b u e).stay (fun c v hc q => k c v ?_ q) (fun _ q => q) fun _ _ q => q
    rcases hc with z | z
    · rw [z]; exact nit b u e
    · exact nit c _ z
theorem Inv.tok (I : Inv X pins σ H s) (t : Nat) : Inv X pins σ H { s with toks := t } := I.un (h' := s.heap) (t' := t) Un.refl I.hok
theorem Inv.kept {t' : Nat} (I : Inv X pins σ H s) (k : ∀ b u, s.heap.get? b = some u → h'.get? b = some u) : Inv X pins σ H { s with heap := h', toks := t' } := I.un (Un.kept k) (I.hok.kept k)
theorem Inv.laid {a : Addr} {o : HO} {t' : Nat} (I : Inv X pins σ H s) (k : ∀ b u, s.heap.get? b = some u → h'.get? b = some u) (hp : s.heap.objs.size ≤ a) (new : ObjOk X.prog X.w (upd H a o) h' a o) :
    Inv X pins σ (upd H a o) { s with heap := h', toks := t' } := I.un (Un.laid k hp (I.hok.fresh hp)) (I.hok.laid k hp new)
theorem Inv.write {x e : Addr} {o : HO} {t' : Nat} (I : Inv X pins σ H s) (mu : Mut (H x)) (he : e = x ∨ H e = some (.own x)) (k : ∀ b u, b ≠ e → s.heap.get? b = some u → h'.get? b = some u) (heo : ∃ u, h'.get? e = some u)
    (new : ObjOk X.prog X.w (upd H x o) h' x o) : Inv X pins σ (upd H x o) { s with heap := h', toks := t' } := I.un (Un.write mu he k heo) (I.hok.write mu he k heo new)
theorem Inv.weak {σ' : List (Option V)} (I : Inv X pins σ H s) (hl : σ'.length = σ.length) (w : ∀ (i : Nat) v, σ'[i]? = some (some v) → σ[i]? = some (some v)) : Inv X pins σ' H s :=
  ⟨I.ok, I.os, I.bare, I.base, let ⟨m, hn, hl'⟩ := I.loc; ⟨m, hn, fun i x v e1 e2 e3 => hl' i x v e1 (w i v e2) e3⟩, I.cell, I.free, I.freeC, I.pin, I.hok, hl.trans I.len⟩
theorem Inv.pins_of {pins' : List (Addr × Obj)} (I : Inv X pins σ H s) (h : ∀ p ∈ pins', s.heap.get? p.1 = some p.2 ∧ H p.1 = none ∧ p.1 ≠ X.env.locals ∧ p.1 ∉ X.fs ∧ ∀ v, p.2.data ≠ .cell v) : Inv X pins' σ H s :=
  ⟨I.ok, I.os, I.bare, I.base, I.loc, I.cell, I.free, I.freeC, fun p hp => (List.mem_append.mp hp).elim (fun z => I.pin p (List.mem_append_left _ z)) (h p), I.hok, I.len⟩

theorem nodup_ix {N : List Str} (hN : N.Nodup) {i j : Nat} {x : Str} (a : N[i]? = some x) (b : N[j]? = some x) : i = j := by
  obtain ⟨h1, e1⟩ := List.getElem?_eq_some_iff.mp a
  obtain ⟨h2, e2⟩ := List.getElem?_eq_some_iff.mp b
  exact (List.getElem_inj hN).mp (e1.trans e2.symm)

theorem store_ok2 {M : Model} {A : Around} {E : Value → Shared → Prop} {i : Nat} {x : Str} {v : V} {u : Value} {Q : Unit → Shared → Prop} (I : Inv X pins σ H s) (hN : X.N.Nodup) (hi : X.N[i]? = some x) (hx : Loc X.env.scope x) (r : RelV v u)
    (h : ∀ s', Inv X pins (σ.set i (some v)) H s' → (∃ a, Heap.SameBut a s.heap s'.heap ∧ (a = X.env.locals ∨ X.env.cells.lookup x = some a)) → Q () s') (hf : X.fn x = true ∨ X.env.scope.names.lookup x = some .local := by first | exact .inl rfl | exact .inr rfl | assumption) : wpAny M A (storeName X.env x u) Q E s := by
  obtain ⟨m, hn, hl⟩ := id I.loc
  have hcls : (X.env.scope.kind == .class || (X.env.scope.kind == .module && X.env.locals != X.env.globals)) = false := by rw [I.ok.kind]; rfl
  have hiσ : i < σ.length := by rw [I.len]; exact (List.getElem?_eq_some_iff.mp hi).1
  have cne := I.cne
  have tracked : ∀ {a : Addr} {h' : Heap}, (∃ o, s.heap.get? a = some o ∧ H a = none) → Heap.SameBut a s.heap h' → HOk X.prog X.w H h' := fun {a h'} ha hs b ob e => by
    obtain ⟨_, _, hfree⟩ := ha
    refine (I.hok b ob e).stay (fun c w' hc q => (hs.2 c ?_).trans q) (fun _ q => q) fun _ _ q => q
    rintro rfl
    rcases hc with rfl | hc
    · rw [hfree] at e; cases e
    · rw [hfree] at hc; cases hc
  rcases hx with hk | hk
  · refine wpAny_storeName_local hk hn (fun h' hn' hs => ?_) hcls
    obtain ⟨oL, _, _, hoL, _⟩ := id hn
    refine h _ ⟨I.ok, I.os, I.bare, ⟨fun b o e n hb hx => ?_, fun b o e n hb hx => ?_, I.base.free, fun b o e hx => ?_, I.base.tups, I.base.frzs, I.base.tbls⟩, ⟨_, hn', fun j y v' e1 e2 e3 => ?_⟩, fun y c e => ?_, I.free, I.freeC, fun p hp => ?_, tracked ⟨oL, hoL, I.free⟩ hs, by simpa using I.len⟩ ⟨_, hs, .inl rfl⟩
    · exact (hs.2 b (Nat.ne_of_lt (Nat.lt_of_lt_of_le (Heap.lt_size e) I.ok.above))).trans (I.base.keep b o e n hb hx)
    · obtain ⟨sl, e1⟩ := I.base.slot b o e n hb hx
      exact ⟨sl, (hs.2 b (Nat.ne_of_lt (Nat.lt_of_lt_of_le (Heap.lt_size e) I.ok.above))).trans e1⟩
    · obtain ⟨o', e1⟩ := I.base.there b o e hx
      exact ⟨o', (hs.2 b (Nat.ne_of_lt (Nat.lt_of_lt_of_le (Heap.lt_size e) I.ok.above))).trans e1⟩
    · by_cases hj : j = i
      · subst hj
        rw [hi] at e1; cases e1
        rw [List.getElem?_set_self hiσ] at e2
        cases e2
        exact ⟨u, r, .inl ⟨hk, by simp⟩⟩
      · rw [List.getElem?_set_ne (Ne.symm hj)] at e2
        obtain ⟨u', r', q⟩ := hl j y v' e1 e2 e3
        refine ⟨u', r', ?_⟩
        rcases q with ⟨k, e⟩ | ⟨k, c, e, z⟩
        · refine .inl ⟨k, ?_⟩
          have : y ≠ x := fun e => hj (nodup_ix hN e1 (e ▸ hi))
          simp [this, e]
        · exact .inr ⟨k, c, e, z.sameBut hs (cne y c e)⟩
    · obtain ⟨w', z⟩ := I.cell y c e
      exact ⟨w', z.sameBut hs (cne y c e)⟩
    · obtain ⟨e, n, ne, nf, d⟩ := I.pin p hp
      exact ⟨(hs.2 p.1 ne).trans e, n, ne, nf, d⟩
  · have hfn : X.fn x = true := by
      rcases hf with z | z
      · exact z
      · rw [z] at hk; cases hk
    obtain ⟨c, hc⟩ := I.ok.has x (.inl hk)
    obtain ⟨w', z⟩ := I.cell x c hc
    refine wpAny_storeName_cell I.ok.kind hk hc z (fun h' hc' hs => ?_)
    obtain ⟨oc, hoc, hocd⟩ := id z
    refine h { s with heap := h' } ⟨I.ok, I.os, I.bare, ⟨fun b o e n hb hx => ?_, fun b o e n hb hx => ?_, I.base.free, fun b o e hx => ?_, I.base.tups, I.base.frzs, I.base.tbls⟩, ⟨m, hn.sameBut hs (Ne.symm (cne x c hc)), fun j y v' e1 e2 e3 => ?_⟩, fun y c' e => ?_, I.free, I.freeC, fun p hp => ?_, tracked ⟨oc, hoc, I.freeC x c hc⟩ hs, by simpa using I.len⟩ ⟨c, hs, .inr hc⟩
    · exact (hs.2 b (Nat.ne_of_lt (Nat.lt_of_lt_of_le (Heap.lt_size e) (I.ok.cab x c hfn hc)))).trans (I.base.keep b o e n hb hx)
    · obtain ⟨sl, e1⟩ := I.base.slot b o e n hb hx
      exact ⟨sl, (hs.2 b (Nat.ne_of_lt (Nat.lt_of_lt_of_le (Heap.lt_size e) (I.ok.cab x c hfn hc)))).trans e1⟩
    · obtain ⟨o', e1⟩ := I.base.there b o e hx
      exact ⟨o', (hs.2 b (Nat.ne_of_lt (Nat.lt_of_lt_of_le (Heap.lt_size e) (I.ok.cab x c hfn hc)))).trans e1⟩
    · by_cases hj : j = i
      · subst hj
        rw [hi] at e1; cases e1
        rw [List.getElem?_set_self hiσ] at e2
        cases e2
        exact ⟨u, r, .inr ⟨.inl hk, c, hc, hc'⟩⟩
      · rw [List.getElem?_set_ne (Ne.symm hj)] at e2
        obtain ⟨u', r', q⟩ := hl j y v' e1 e2 e3
        refine ⟨u', r', ?_⟩
        rcases q with q | ⟨k, c', e, z'⟩
        · exact .inl q
        · refine .inr ⟨k, c', e, z'.sameBut hs ?_⟩
          rintro rfl
          exact hj (nodup_ix hN e1 (I.ok.inj _ _ _ e hc ▸ hi))
    · by_cases hcc : c' = c
      · subst hcc; exact ⟨_, hc'⟩
      · obtain ⟨w2, z2⟩ := I.cell y c' e
        exact ⟨w2, z2.sameBut hs hcc⟩
    · obtain ⟨e, n, ne, nf, d⟩ := I.pin p hp
      refine ⟨(hs.2 p.1 ?_).trans e, n, ne, nf, d⟩
      intro q
      rw [q, hoc] at e
      have q' : oc = p.2 := Option.some.inj e
      exact d w' (by rw [← q']; exact hocd)
theorem store_ok {M : Model} {A : Around} {E : Value → Shared → Prop} {i : Nat} {x : Str} {v : V} {u : Value} {Q : Unit → Shared → Prop} (I : Inv X pins σ H s) (hN : X.N.Nodup) (hi : X.N[i]? = some x) (hx : Loc X.env.scope x) (r : RelV v u)
    (h : ∀ s', Inv X pins (σ.set i (some v)) H s' → Q () s') (hf : X.fn x = true ∨ X.env.scope.names.lookup x = some .local := by first | exact .inl rfl | exact .inr rfl | assumption) : wpAny M A (storeName X.env x u) Q E s :=
  store_ok2 I hN hi hx r (fun s' I' _ => h s' I') hf
theorem Inv.call' {s' : Shared} {ch : List Addr} (I : Inv X pins σ H s) (ho : s'.os = s.os) (u : Un (frs X.stack) ch H H' s.heap s'.heap) (hok : HOk X.prog X.w H' s'.heap) (hg : AllBare s'.gens)
    (hch : ∀ b ∈ ch, (b ∈ X.ex ∨ X.s₀.heap.objs.size ≤ b) ∧ b ≠ X.env.locals ∧ (∀ x c, X.env.cells.lookup x = some c → c ≠ b) ∧ ∀ p ∈ X.pn ++ pins, p.1 ≠ b) : Inv X pins σ H' s' := by
  obtain ⟨h', g', d', t', o'⟩ := s'
  have e : o' = s.os := ho
  subst e
  exact I.call (g' := g') (t' := t') (d' := d') u hok hg hch
end

noncomputable abbrev XK := Value → Option Addr → Hp → Prop
noncomputable abbrev St := List (Option V)
noncomputable abbrev VK := V → Hp → Prop
noncomputable abbrev TE := St → Hp → VK → Prop
noncomputable abbrev TT := St → Hp → (Bool → Hp → Prop) → Prop
noncomputable abbrev TA := St → Hp → (List V → Hp → Prop) → Prop
structure Ends where
  nx : St → Hp → Prop
  rt : VK
  bk : St → Hp → Prop := fun _ _ => False
  ct : St → Hp → Prop := fun _ _ => False
noncomputable abbrev TS := Ends → St → Hp → Prop

noncomputable def EP (X : Cx) (pins : List (Addr × Obj)) (σ : St) (Q : VK) (u : Value) (s' : Shared) : Prop := ∃ v H', Inv X pins σ H' s' ∧ RelV v u ∧ Q v H'
noncomputable def TP (X : Cx) (pins : List (Addr × Obj)) (σ : St) (Q : Bool → Hp → Prop) (b : Bool) (s' : Shared) : Prop := ∃ H', Inv X pins σ H' s' ∧ Q b H'
noncomputable def AP (X : Cx) (pins : List (Addr × Obj)) (σ : St) (Q : List V → Hp → Prop) (us : List Value) (s' : Shared) : Prop := ∃ vs H', Inv X pins σ H' s' ∧ Vals vs us ∧ Q vs H'
noncomputable def SP (X : Cx) (pins : List (Addr × Obj)) (D : Ends) (f : Flow) (s' : Shared) : Prop :=
  match f with
  | .next => ∃ σ' H', Inv X pins σ' H' s' ∧ D.nx σ' H'
  | .brk => ∃ σ' H', Inv X pins σ' H' s' ∧ D.bk σ' H'
  | .cont => ∃ σ' H', Inv X pins σ' H' s' ∧ D.ct σ' H'
  | .ret u => ∃ v σ' H', Inv X pins σ' H' s' ∧ RelV v u ∧ D.rt v H'

noncomputable def PE (X : Cx) (e : Expr) (t : TE) : Prop :=
  ∀ (pins : List (Addr × Obj)) (s : Shared) (σ : St) (H : Hp) (Q : VK), Inv X pins σ H s → t σ H Q → wpAny (model X.prog X.w) X.A (eval e X.env) (EP X pins σ Q) X.xe s
noncomputable def PT (X : Cx) (e : Expr) (t : TT) : Prop :=
  ∀ (pins : List (Addr × Obj)) (s : Shared) (σ : St) (H : Hp) (Q : Bool → Hp → Prop), Inv X pins σ H s → t σ H Q → wpAny (model X.prog X.w) X.A (isTrue e X.env (eval e X.env)) (TP X pins σ Q) X.xe s
noncomputable def PW (X : Cx) (e : Expr) (t : TT) : Prop :=
  ∀ (whole : Sem Value) (pins : List (Addr × Obj)) (s : Shared) (σ : St) (H : Hp) (Q : Bool → Hp → Prop), Inv X pins σ H s → t σ H Q → wpAny (model X.prog X.w) X.A (isTrue e X.env whole) (TP X pins σ Q) X.xe s
theorem PW.pt {X : Cx} {e : Expr} {t : TT} (h : PW X e t) : PT X e t := h _
noncomputable def PA (X : Cx) (es : List Expr) (t : TA) : Prop :=
  ∀ (pos : Pos) (pins : List (Addr × Obj)) (s : Shared) (σ : St) (H : Hp) (Q : List V → Hp → Prop), Inv X pins σ H s → t σ H Q → wpAny (model X.prog X.w) X.A (spliced (backTo pos (starEach es X.env))) (AP X pins σ Q) X.xe s
noncomputable def PS (X : Cx) (st : Stmt) (t : TS) : Prop :=
  ∀ (pins : List (Addr × Obj)) (s : Shared) (σ : St) (H : Hp) (D : Ends), Inv X pins σ H s → t D σ H → wpAny (model X.prog X.w) X.A (exec st X.env) (SP X pins D) X.xe s
noncomputable def PSs (X : Cx) (st : List Stmt) (t : TS) : Prop :=
  ∀ (pins : List (Addr × Obj)) (s : Shared) (σ : St) (H : Hp) (D : Ends), Inv X pins σ H s → t D σ H → wpAny (model X.prog X.w) X.A (execs st X.env) (SP X pins D) X.xe s
theorem thn {α : Type} {t : Sem α} {Q Q' : α → Shared → Prop} {M : Model} {A : Around} {E : Value → Shared → Prop} {s : Shared} (h : wpAny M A t Q E s) (hQ : ∀ a s, Q a s → Q' a s) : wpAny M A t Q' E s := wpAny_mono h hQ fun _ _ x => x
end L2

namespace L2
open PySem PySem.Spec PyProof.Rows
section
variable {X : Cx}

noncomputable def tVar (i : Nat) : TE := fun σ H Q => ∃ v, σ[i]? = some (some v) ∧ Q v H
noncomputable abbrev tC (v : V) : TE := fun _ H Q => Q v H
theorem pe_var {i : Nat} {x : Str} {pos : Pos} (hN : X.N[i]? = some x) (hv : Vis X.env.scope x) (hd : (x == ("__debug__" : Str)) = false := by decide) (hcd : (x == ("__classdict__" : Str)) = false := by decide) : PE X (.Name x pos) (tVar i) := by
  intro pins s σ H Q I h
  obtain ⟨v, e, h⟩ := h
  obtain ⟨m, hn, hl⟩ := I.loc
  obtain ⟨u, r, l⟩ := hl i x v hN e hv
  have fin : EP X pins σ Q u s := ⟨v, H, I, r, h⟩
  rcases l with ⟨hk, hm⟩ | ⟨hk, c, hc, hcell⟩
  · exact wpAny_Name (wpAny_loadName_local I.ok.kind hk hn hm fin) hd
  · rcases hk with hk | hk
    · exact wpAny_Name (wpAny_loadName_cell I.ok.kind hk hc hcell fin) hd
    · exact wpAny_Name (wpAny_loadName_free I.ok.kind hk hc hcell fin hcd) hd
theorem pe_int {i j pos} : PE X (.Constant (.int i) j pos) (tC (.int i)) := fun _ _ _ H _ I h => wpAny_Constant_int ⟨.int i, H, I.tok _, ⟨_, rfl⟩, h⟩
theorem pe_bl {b j pos} : PE X (.Constant (.bool b) j pos) (tC (.bl b)) := fun _ _ _ H _ I h => Constant_bool ⟨.bl b, H, I, rfl, h⟩
theorem pe_non {j pos} : PE X (.Constant .none j pos) (tC .non) := fun _ _ _ H _ I h => Constant_none ⟨.non, H, I, rfl, h⟩
theorem pe_str {x j pos} : PE X (.Constant (.str x) j pos) (tC (.str x)) := fun _ _ _ H _ I h => Calls.Constant_str ⟨.str x, H, I.tok _, ⟨_, rfl⟩, h⟩

noncomputable def Gl (X : Cx) (x : Str) : Prop := X.env.kindOf x = some .globalImplicit
theorem ld_glob {E : Value → Shared → Prop} {pins : List (Addr × Obj)} {s : Shared} {σ : St} {H : Hp} {x : Str} {u : Value} {pos : Pos} {Q : Value → Shared → Prop} (I : Inv X pins σ H s) (hg : Gl X x) (hm : X.mg x = some u) (h : Q u s)
    (hd : (x == ("__debug__" : Str)) = false := by decide) : wpAny (model X.prog X.w) X.A (eval (.Name x pos) X.env) Q E s :=
  Calls.Name_function_global I.ok.kind hg (Calls.loadGlobal_global (by rw [I.ok.glob]; exact I.mod.glob.keeps I.bk) hm h) hd
theorem ld_blt {E : Value → Shared → Prop} {pins : List (Addr × Obj)} {s : Shared} {σ : St} {H : Hp} {x : Str} {u : Value} {pos : Pos} {Q : Value → Shared → Prop} (I : Inv X pins σ H s) (hg : Gl X x) (hm : X.mg x = none) (hv : bootBuiltins x = some u) (h : Q u s)
    (hn : x ≠ "__name__" := by decide) (hd : (x == ("__debug__" : Str)) = false := by decide) : wpAny (model X.prog X.w) X.A (eval (.Name x pos) X.env) Q E s := by
  obtain ⟨mb, h1, h2⟩ := I.mod.blt
  exact Calls.Name_function_global I.ok.kind hg (Calls.loadGlobal_builtin (by rw [I.ok.glob]; exact I.mod.glob.keeps I.bk) hm (by rw [I.ok.blt]; exact h1.keeps I.bk) ((h2 x hn).trans hv) h) hd
theorem pe_glob {x : Str} {v : V} {u : Value} {pos : Pos} (hg : Gl X x) (hm : X.mg x = some u) (r : RelV v u) (hd : (x == ("__debug__" : Str)) = false := by decide) : PE X (.Name x pos) (tC v) :=
  fun _ _ _ H _ I h => ld_glob I hg hm ⟨v, H, I, r, h⟩ hd
theorem pe_bltn {x : Str} {v : V} {u : Value} {pos : Pos} (hg : Gl X x) (hm : X.mg x = none) (hv : bootBuiltins x = some u) (r : RelV v u) (hn : x ≠ "__name__" := by decide) (hd : (x == ("__debug__" : Str)) = false := by decide) : PE X (.Name x pos) (tC v) :=
  fun _ _ _ H _ I h => ld_blt I hg hm hv ⟨v, H, I, r, h⟩ hn hd

variable {a b : Expr} {ta tb : TE} {pos : Pos}
noncomputable def tB (t : TE) : TT := fun σ H Q => t σ H fun x H1 => ∃ c, x = .bl c ∧ Q c H1
theorem pt_val {e : Expr} {t : TE} (h : PE X e t) (he : ∀ whole, isTrue e X.env whole = (do let v ← whole; standAt e.pos; holding [v] (truthy v)) := by intro _; rfl) : PT X e (tB t) := by
  intro pins s σ H Q I hw
  refine isTrue_plain (thn (h pins s σ H _ I hw) fun v s1 ⟨x, H1, I1, r1, q1⟩ => ?_) (he _)
  obtain ⟨d, rfl, q⟩ := q1
  cases r1
  exact wpAny_truthy_bool ⟨H1, I1, q⟩

variable {tA tB' : TT} {rest : List Expr}
noncomputable def tAnd (t u : TT) : TT := fun σ H Q => t σ H fun c H1 => if c = true then u σ H1 Q else Q false H1
noncomputable def tOr (t u : TT) : TT := fun σ H Q => t σ H fun c H1 => if c = true then Q true H1 else u σ H1 Q
noncomputable def tNot (t : TT) : TT := fun σ H Q => t σ H fun c H1 => Q (!c) H1
theorem pw_and1 (ha : PT X a tA) : PW X (.BoolOp .And [a] pos) tA := by
  intro wh pins s σ H Q I h
  refine isTrue_and (thn (ha pins s σ H Q I h) fun c s1 e => ?_)
  cases c with
  | true => exact isTrue_and_nil e
  | false => exact e
theorem pw_or1 (ha : PT X a tA) : PW X (.BoolOp .Or [a] pos) tA := by
  intro wh pins s σ H Q I h
  refine isTrue_or (thn (ha pins s σ H Q I h) fun c s1 e => ?_)
  cases c with
  | false => exact isTrue_or_nil e
  | true => exact e
theorem pw_and (ha : PT X a tA) (hb : PW X (.BoolOp .And (b :: rest) pos) tB') : PW X (.BoolOp .And (a :: b :: rest) pos) (tAnd tA tB') := by
  intro wh pins s σ H Q I h
  refine isTrue_and (thn (ha pins s σ H _ I h) fun c s1 ⟨H1, I1, q1⟩ => ?_)
  cases c with
  | true => exact hb wh pins s1 σ H1 Q I1 q1
  | false => exact ⟨H1, I1, q1⟩
theorem pw_or (ha : PT X a tA) (hb : PW X (.BoolOp .Or (b :: rest) pos) tB') : PW X (.BoolOp .Or (a :: b :: rest) pos) (tOr tA tB') := by
  intro wh pins s σ H Q I h
  refine isTrue_or (thn (ha pins s σ H _ I h) fun c s1 ⟨H1, I1, q1⟩ => ?_)
  cases c with
  | true => exact ⟨H1, I1, q1⟩
  | false => exact hb wh pins s1 σ H1 Q I1 q1
theorem pt_not (ha : PT X a tA) : PT X (.UnaryOp .Not a pos) (tNot tA) := by
  intro pins s σ H Q I h
  exact isTrue_not (ha pins s σ H (fun c H1 => Q (!c) H1) I h)
noncomputable def tAndV (ta tb : TE) : TE := fun σ H Q => ta σ H fun x H1 => ∃ c, x = .bl c ∧ if c = true then tb σ H1 Q else Q (.bl false) H1
noncomputable def tOrV (ta tb : TE) : TE := fun σ H Q => ta σ H fun x H1 => ∃ c, x = .bl c ∧ if c = true then Q (.bl true) H1 else tb σ H1 Q
noncomputable def tNotV (ta : TE) : TE := fun σ H Q => ta σ H fun x H1 => ∃ c, x = .bl c ∧ Q (.bl (!c)) H1
theorem pe_one {op} {t : TE} (h : PE X a t) : PE X (.BoolOp op [a] pos) t := fun pins s σ H Q I hw => BoolOp_one (h pins s σ H Q I hw)
theorem pe_and (ha : PE X a ta) (hb : PE X (.BoolOp .And (b :: rest) pos) tb) : PE X (.BoolOp .And (a :: b :: rest) pos) (tAndV ta tb) := by
  intro pins s σ H Q I h
  refine BoolOp_and (thn (ha pins s σ H _ I h) fun v s1 ⟨x, H1, I1, r1, q1⟩ => ?_)
  obtain ⟨c, rfl, q1⟩ := q1
  cases r1
  refine wpAny_truthy_bool ?_
  cases c with
  | true => exact hb pins s1 σ H1 Q I1 q1
  | false => exact ⟨.bl false, H1, I1, rfl, q1⟩
theorem pe_or (ha : PE X a ta) (hb : PE X (.BoolOp .Or (b :: rest) pos) tb) : PE X (.BoolOp .Or (a :: b :: rest) pos) (tOrV ta tb) := by
  intro pins s σ H Q I h
  refine BoolOp_or (thn (ha pins s σ H _ I h) fun v s1 ⟨x, H1, I1, r1, q1⟩ => ?_)
  obtain ⟨c, rfl, q1⟩ := q1
  cases r1
  refine wpAny_truthy_bool ?_
  cases c with
  | false => exact hb pins s1 σ H1 Q I1 q1
  | true => exact ⟨.bl true, H1, I1, rfl, q1⟩
theorem pe_not (ha : PE X a ta) : PE X (.UnaryOp .Not a pos) (tNotV ta) := by
  intro pins s σ H Q I h
  refine UnaryOp_ (thn (ha pins s σ H _ I h) fun v s1 ⟨x, H1, I1, r1, q1⟩ => ?_)
  obtain ⟨c, rfl, q1⟩ := q1
  cases r1
  exact not_of (wpAny_truthy_bool ⟨.bl (!c), H1, I1, rfl, q1⟩)
noncomputable def tIf (t : TT) (ta tb : TE) : TE := fun σ H Q => t σ H fun c H1 => if c = true then ta σ H1 Q else tb σ H1 Q
theorem pe_ifExp {c : Expr} (hc : PT X c tA) (ha : PE X a ta) (hb : PE X b tb) : PE X (.IfExp c a b pos) (tIf tA ta tb) := by
  intro pins s σ H Q I h
  refine wpAny_IfExp (thn (hc pins s σ H _ I h) fun d s1 ⟨H1, I1, q1⟩ => ?_)
  cases d with
  | true => exact ha pins s1 σ H1 Q I1 q1
  | false => exact hb pins s1 σ H1 Q I1 q1
end
end L2

namespace L2
open PySem PySem.Spec PyProof.Rows

noncomputable def SqL (K : PySem.W.Frag) (H : Hp) (a : Addr) (xs : List V) : Prop :=
  Rd H a (.lst xs) ∨
    ∃ (o : Obj) (its : Array Value) (n : Nat), K.lookup a = some o ∧ o.cls = .type "list" ∧ o.dict = none ∧ o.data = .seq its n ∧ its.size ≤ sizeLine ∧ Vals xs its.toList
noncomputable def SqT (K : PySem.W.Frag) (H : Hp) (a : Addr) (xs : List V) : Prop :=
  Rd H a (.tup xs) ∨
    ∃ (o : Obj) (its : Array Value) (n : Nat), K.lookup a = some o ∧ o.cls = .type "tuple" ∧ o.data = .seq its n ∧ its.size ≤ sizeLine ∧ Vals xs its.toList
noncomputable def absV : Value → Option V
  | .none => some .non
  | .bool b => some (.bl b)
  | .int i _ => some (.int i)
  | .str x _ => some (.str x)
  | .bytes b _ => some (.byt b)
  | .float b _ => some (.flt b)
  | .ref a => some (.ref a)
  | .type n => some (.ty n)
  | _ => none
theorem RelV.abs {x : V} {u : Value} (r : RelV x u) : absV u = some x := by
  cases x with
  | non => cases r; rfl
  | bl _ => cases r; rfl
  | int _ => obtain ⟨t, rfl⟩ := r; rfl
  | str _ => obtain ⟨t, rfl⟩ := r; rfl
  | byt _ => obtain ⟨t, rfl⟩ := r; rfl
  | flt _ => obtain ⟨t, rfl⟩ := r; rfl
  | ref _ => cases r; rfl
  | ty _ => cases r; rfl
theorem RelV.inj {x y : V} {u : Value} (r : RelV x u) (q : RelV y u) : x = y := Option.some.inj (r.abs.symm.trans q.abs)
theorem Vals.inj : ∀ {xs ys : List V} {us : List Value}, Vals xs us → Vals ys us → xs = ys
  | _, _, _, .nil, .nil => rfl
  | _, _, _, .cons r t, .cons r' t' => by rw [r.inj r', Vals.inj t t']
section
variable {X : Cx} {pins : List (Addr × Obj)} {σ : St} {H : Hp} {s : Shared} {a : Addr} {xs ys : List V}
theorem SqL.of {K : PySem.W.Frag} (h : H a = some (.lst xs)) : SqL K H a xs := .inl (.inl h)
theorem SqT.of {K : PySem.W.Frag} (h : H a = some (.tup xs)) : SqT K H a xs := .inl (.inl h)
theorem Inv.list (I : Inv X pins σ H s) (h : SqL X.K H a xs) : ∃ its : List Value, Vals xs its ∧ PlainL s.heap a its.toArray ∧ xs.length ≤ sizeLine := by
  rcases h with h | ⟨o, its, n, hk, hc, hd, hs, hz, r⟩
  · obtain ⟨z, its, n, r, e⟩ := h.ok I.hok
    exact ⟨its, r, ⟨_, n, e, rfl, rfl, rfl⟩, z⟩
  · refine ⟨its.toList, r, ⟨o, n, I.kIn a o hk, hc, hd, by simpa using hs⟩, ?_⟩
    have e := r.length
    simp only [Array.length_toList] at e
    omega
theorem Inv.tuple (I : Inv X pins σ H s) (h : SqT X.K H a xs) : ∃ its : List Value, Vals xs its ∧ IsTup s.heap a its.toArray ∧ xs.length ≤ sizeLine := by
  rcases h with h | ⟨o, its, n, hk, hc, hs, hz, r⟩
  · obtain ⟨z, its, r, p⟩ := h.ok I.hok
    exact ⟨its, r, p, z⟩
  · refine ⟨its.toList, r, ⟨o, I.kIn a o hk, hc, n, by simpa using hs⟩, ?_⟩
    have e := r.length
    simp only [Array.length_toList] at e
    omega
theorem Inv.list_inj (I : Inv X pins σ H s) (h : SqL X.K H a xs) (h' : SqL X.K H a ys) : xs = ys := by
  obtain ⟨its, r, ⟨o, n, e, _, _, d⟩, _⟩ := I.list h
  obtain ⟨its', r', ⟨o', n', e', _, _, d'⟩, _⟩ := I.list h'
  rw [e] at e'; cases e'
  rw [d] at d'
  injection d' with d1 _
  have : its = its' := by simpa using congrArg Array.toList d1
  subst this
  exact r.inj r'
end

noncomputable abbrev Cx.wish (X : Cx) (E : Value → Shared → Prop) : Cx := { X with xe := E }
noncomputable abbrev Cx.nox (X : Cx) : Cx := X.wish fun _ _ => False
theorem Cx.Ok.wish {X : Cx} (ok : X.Ok) (E : Value → Shared → Prop) : (X.wish E).Ok :=
  ⟨ok.mod, ok.kind, ok.glob, ok.blt, ok.above, ok.inj, ok.has, ok.cab, ok.hd, ok.frames, ok.stk, ok.exf, ok.bs, ok.bsz, ok.noex, ok.exfs, ok.funs, ok.frf⟩
theorem Cx.Ok.unwish {X : Cx} {E : Value → Shared → Prop} (ok : (X.wish E).Ok) : X.Ok :=
  ⟨ok.mod, ok.kind, ok.glob, ok.blt, ok.above, ok.inj, ok.has, ok.cab, ok.hd, ok.frames, ok.stk, ok.exf, ok.bs, ok.bsz, ok.noex, ok.exfs, ok.funs, ok.frf⟩
section
variable {X : Cx} {pins : List (Addr × Obj)} {σ : St} {H : Hp} {s : Shared} {E : Value → Shared → Prop}
theorem Inv.wish (I : Inv X pins σ H s) (E : Value → Shared → Prop) : Inv (X.wish E) pins σ H s := ⟨I.ok.wish E, I.os, I.bare, I.base, I.loc, I.cell, I.free, I.freeC, I.pin, I.hok, I.len⟩
theorem Inv.unwish (I : Inv (X.wish E) pins σ H s) : Inv X pins σ H s := ⟨I.ok.unwish, I.os, I.bare, I.base, I.loc, I.cell, I.free, I.freeC, I.pin, I.hok, I.len⟩
theorem SP.unwish {D : Ends} {f : Flow} {s' : Shared} (h : SP (X.wish E) pins D f s') : SP X pins D f s' := by
  cases f with
  | next => obtain ⟨σ', H', I, q⟩ := h; exact ⟨σ', H', I.unwish, q⟩
  | brk => obtain ⟨σ', H', I, q⟩ := h; exact ⟨σ', H', I.unwish, q⟩
  | cont => obtain ⟨σ', H', I, q⟩ := h; exact ⟨σ', H', I.unwish, q⟩
  | ret u => obtain ⟨v, σ', H', I, r, q⟩ := h; exact ⟨v, σ', H', I.unwish, r, q⟩
theorem PE.nox {e : Expr} {t : TE} (h : PE X.nox e t) : PE X e t := fun pins s σ H Q I hw =>
  wpAny_mono (h pins s σ H Q (I.wish _) hw) (fun _ _ ⟨v, H', I', r, q⟩ => ⟨v, H', I'.unwish, r, q⟩) fun _ _ z => False.elim z
theorem PT.nox {e : Expr} {t : TT} (h : PT X.nox e t) : PT X e t := fun pins s σ H Q I hw =>
  wpAny_mono (h pins s σ H Q (I.wish _) hw) (fun _ _ ⟨H', I', q⟩ => ⟨H', I'.unwish, q⟩) fun _ _ z => False.elim z
theorem PSs.nox {st : List Stmt} {t : TS} (h : PSs X.nox st t) : PSs X st t := fun pins s σ H D I hw =>
  wpAny_mono (h pins s σ H D (I.wish _) hw) (fun _ _ q => q.unwish) fun _ _ z => False.elim z
end

section
variable {X : Cx} {st : Stmt} {rest : List Stmt} {t u : TS} {e : Expr} {te : TE} {pos : Pos}
noncomputable def tNext : TS := fun D σ H => D.nx σ H
noncomputable def tSeq (t u : TS) : TS := fun D σ H => t { D with nx := u D } σ H
theorem pss_nil : PSs X [] tNext := fun _ _ σ H _ I h => wpAny_execs_nil ⟨σ, H, I, h⟩
theorem pss_cons (h1 : PS X st t) (h2 : PSs X rest u) : PSs X (st :: rest) (tSeq t u) := by
  intro pins s σ H D I h
  refine wpAny_execs_cons (thn (h1 pins s σ H { D with nx := u D } I h) fun f s1 q => ?_)
  cases f with
  | next =>
    obtain ⟨σ', H', I', q⟩ := q
    exact h2 pins s1 σ' H' D I' q
  | ret v => exact q
  | brk => exact q
  | cont => exact q
theorem pss_one (h1 : PS X st t) : PSs X [st] t := by
  intro pins s σ H D I h
  refine wpAny_execs_cons (thn (h1 pins s σ H D I h) fun f s1 q => ?_)
  cases f with
  | next => exact wpAny_execs_nil q
  | ret v => exact q
  | brk => exact q
  | cont => exact q
theorem Inv.quiet {pins : List (Addr × Obj)} {σ : St} {H : Hp} {s : Shared} (I : Inv X pins σ H s) : interactive X.env = false := by simp [interactive, I.ok.kind]
noncomputable def tDrop (te : TE) : TS := fun D σ H => te σ H fun _ H1 => D.nx σ H1
theorem ps_expr (he : PE X e te) (hs : swapsWith e none pos.line X.env = pure false := by rfl) : PS X (.Expr e pos) (tDrop te) := by
  intro pins s σ H D I h
  exact wpAny_Expr_any (thn (he pins s σ H _ I h) fun v s1 ⟨x, H1, I1, r1, q1⟩ => ⟨σ, H1, I1, q1⟩) I.quiet hs
noncomputable def tRet (te : TE) : TS := fun D σ H => te σ H D.rt
theorem ps_ret (he : PE X e te) : PS X (.Return (some e) pos) (tRet te) := by
  intro pins s σ H D I h
  exact wpAny_Return_some (thn (he pins s σ H _ I h) fun v s1 ⟨x, H1, I1, r1, q1⟩ => ⟨x, σ, H1, I1, r1, q1⟩)
noncomputable def tIfS (c : TT) (t u : TS) : TS := fun D σ H => c σ H fun b H1 => if b = true then t D σ H1 else u D σ H1
theorem ps_if {c : Expr} {a b : List Stmt} {tc : TT} (hc : PT X c tc) (ha : PSs X a t) (hb : PSs X b u) : PS X (.If c a b pos) (tIfS tc t u) := by
  intro pins s σ H D I h
  refine wpAny_If (thn (hc pins s σ H _ I h) fun d s1 ⟨H1, I1, q1⟩ => ?_)
  cases d with
  | true => exact ha pins s1 σ H1 D I1 q1
  | false => exact hb pins s1 σ H1 D I1 q1
noncomputable def tNever : TS := fun _ _ _ => False
theorem ps_never : PS X st tNever := fun _ _ _ _ _ _ h => h.elim
end

noncomputable abbrev TG := V → St → Hp → (St → Hp → Prop) → Prop
noncomputable abbrev TGs := List V → St → Hp → (St → Hp → Prop) → Prop
noncomputable def PG (X : Cx) (target : Expr) (t : TG) : Prop :=
  ∀ (pins : List (Addr × Obj)) (s : Shared) (σ : St) (H : Hp) (v : V) (u : Value) (Q : St → Hp → Prop), Inv X pins σ H s → RelV v u → t v σ H Q →
    wpAny (model X.prog X.w) X.A (assign target X.env u) (fun _ s' => ∃ σ' H', Inv X pins σ' H' s' ∧ Q σ' H') X.xe s
noncomputable def PGs (X : Cx) (ts : List Expr) (t : TGs) : Prop :=
  ∀ (pins : List (Addr × Obj)) (s : Shared) (σ : St) (H : Hp) (vs : List V) (us : List Value) (Q : St → Hp → Prop), Inv X pins σ H s → Vals vs us → t vs σ H Q →
    wpAny (model X.prog X.w) X.A (assignInOrder ((assignEach ts X.env).map (·.2)) us) (fun _ s' => ∃ σ' H', Inv X pins σ' H' s' ∧ Q σ' H') X.xe s
noncomputable abbrev TIp := V → V → Hp → VK → Prop
noncomputable def PIp (X : Cx) (op : Operator) (t : TIp) : Prop :=
  ∀ (pins : List (Addr × Obj)) (s : Shared) (σ : St) (H : Hp) (x y : V) (v u : Value) (Q : VK), Inv X pins σ H s → RelV x v → RelV y u → t x y H Q →
    wpAny (model X.prog X.w) X.A (inplaceOp op v u) (EP X pins σ Q) X.xe s
section
variable {X : Cx} {pos : Pos}
noncomputable def gName (i : Nat) : TG := fun v σ H Q => Q (σ.set i (some v)) H
theorem pg_name {i : Nat} {x : Str} (hN : X.N.Nodup) (hi : X.N[i]? = some x) (hx : Loc X.env.scope x) (hf : X.fn x = true ∨ X.env.scope.names.lookup x = some .local := by first | exact .inl rfl | exact .inr rfl | assumption) : PG X (.Name x pos) (gName i) := by
  intro pins s σ H v u Q I r h
  exact wpAny_assign_Name (store_ok I hN hi hx r (fun s' I' => ⟨_, H, I', h⟩) hf)
noncomputable def gNil : TGs := fun vs σ H Q => vs = [] ∧ Q σ H
noncomputable def gCons (t : TG) (u : TGs) : TGs := fun vs σ H Q => ∃ v r, vs = v :: r ∧ t v σ H fun σ' H' => u r σ' H' Q
theorem pgs_nil : PGs X [] gNil := by
  intro pins s σ H vs us Q I r h
  obtain ⟨e, h⟩ := h
  subst e
  cases r
  exact assignInOrder_nil ⟨σ, H, I, h⟩
theorem pgs_cons {e : Expr} {es : List Expr} {t : TG} {u : TGs} (h1 : PG X e t) (h2 : PGs X es u)
    (hs : (assignEach (e :: es) X.env).map (·.2) = assign e X.env :: (assignEach es X.env).map (·.2) := by rfl) : PGs X (e :: es) (gCons t u) := by
  intro pins s σ H vs us Q I r h
  obtain ⟨v, vr, e1, h⟩ := h
  subst e1
  cases r with
  | cons r rr =>
    rw [hs]
    refine assignInOrder_cons (thn (h1 pins s σ H _ _ _ I r h) fun _ s1 ⟨σ1, H1, I1, q1⟩ => ?_)
    exact h2 pins s1 σ1 H1 _ _ Q I1 rr q1
noncomputable def gTup (K : PySem.W.Frag) (n : Nat) (t : TGs) : TG := fun v σ H Q => ∃ a xs, v = .ref a ∧ SqT K H a xs ∧ xs.length = n ∧ t xs σ H Q
theorem pg_tup {es : List Expr} {k : Nat} {t : TGs} {n : Nat} (hc : X.calm = true) (h : PGs X es t)
    (hn : (assignEach es X.env).length = n := by rfl) (hst : (assignEach es X.env).findIdx? (·.1) = none := by rfl) : PG X (.Tuple es k pos) (gTup X.K n t) := by
  intro pins s σ H v u Q I r hw
  obtain ⟨a, xs, e1, hq, hl, hw⟩ := hw
  subst e1
  cases r
  obtain ⟨its, rv, ht, hz⟩ := I.tuple hq
  refine assign_Tuple_tuple (I.ok.hd hc) ht (by simp [hn, ← hl, rv.length]) hst fun h' hx => ?_
  have I1 : Inv X pins σ H { s with heap := h' } := I.kept (t' := s.toks) fun b o e => hx b o (Nat.ne_of_lt (Heap.lt_size e)) e
  exact h pins _ σ H xs _ Q I1 (by simpa using rv) hw
noncomputable def tAsg (te : TE) (g : TG) : TS := fun D σ H => te σ H fun x H1 => g x σ H1 D.nx
theorem ps_set {i : Nat} {x : Str} {e : Expr} {te : TE} {pos' : Pos} (hN : X.N.Nodup) (hi : X.N[i]? = some x) (hx : Loc X.env.scope x) (he : PE X e te) (hs : swapsWith e (some (.Name x pos')) pos.line X.env = pure false := by rfl) (hf : X.fn x = true ∨ X.env.scope.names.lookup x = some .local := by first | exact .inl rfl | exact .inr rfl | assumption) :
    PS X (.Assign [.Name x pos'] e pos) (tAsg te (gName i)) := by
  intro pins s σ H D I h
  refine wpAny_Assign_Name (thn (he pins s σ H _ I h) fun v s1 ⟨y, H1, I1, r1, q1⟩ => ?_) hs
  exact store_ok I1 hN hi hx r1 (fun s2 I2 => ⟨_, H1, I2, q1⟩) hf
noncomputable def tAug (i : Nat) (te : TE) (ti : TIp) : TS := fun D σ H => ∃ x, σ[i]? = some (some x) ∧ te σ H fun y H1 => ti x y H1 fun z H2 => D.nx (σ.set i (some z)) H2
theorem ps_aug {i : Nat} {x : Str} {e : Expr} {te : TE} {op : Operator} {ti : TIp} {pos' : Pos} (hN : X.N.Nodup) (hi : X.N[i]? = some x) (hx : Loc X.env.scope x) (he : PE X e te) (ho : PIp X op ti) (hf : X.fn x = true ∨ X.env.scope.names.lookup x = some .local := by first | exact .inl rfl | exact .inr rfl | assumption) :
    PS X (.AugAssign (.Name x pos') op e pos) (tAug i te ti) := by
  intro pins s σ H D I h
  obtain ⟨v, e1, h⟩ := h
  obtain ⟨m, hn, hl⟩ := I.loc
  have vis : Vis X.env.scope x := by rcases hx with k | k; exact .inl k; exact .inr (.inl k)
  obtain ⟨u, r, l⟩ := hl i x v hi e1 vis
  refine wpAny_AugAssign_Name ?_
  have go : wpAny (model X.prog X.w) X.A (eval e X.env) (fun w s₂ => wpAny (model X.prog X.w) X.A (inplaceOp op u w) (fun r s₃ => wpAny (model X.prog X.w) X.A (storeName X.env x r) (fun _ => SP X pins D .next) X.xe s₃) X.xe s₂) X.xe s := by
    refine thn (he pins s σ H _ I h) fun w s1 ⟨y, H1, I1, r1, q1⟩ => ?_
    refine thn (ho pins s1 σ H1 v y u w _ I1 r r1 q1) fun z s2 ⟨zv, H2, I2, r2, q2⟩ => ?_
    exact store_ok I2 hN hi hx r2 (fun s3 I3 => ⟨_, H2, I3, q2⟩) hf
  rcases l with ⟨hk, hm⟩ | ⟨hk, c, hc, hcell⟩
  · exact wpAny_loadName_local I.ok.kind hk hn hm go
  · rcases hk with hk | hk
    · exact wpAny_loadName_cell I.ok.kind hk hc hcell go
    · rcases hx with k | k
      · have : X.env.scope.names.lookup x = some .free := hk
        rw [k] at this; cases this
      · have : X.env.scope.names.lookup x = some .free := hk
        rw [k] at this; cases this
noncomputable def ipI (f : Int → Int → Int) : TIp := fun x y H Q => ∃ i j, x = .int i ∧ y = .int j ∧ Q (.int (f i j)) H
theorem ip_add : PIp X .Add (ipI fun i j => i + j) := by
  intro pins s σ H x y v u Q I r1 r2 h
  obtain ⟨i, j, e1, e2, q⟩ := h
  subst e1; subst e2
  obtain ⟨t, rfl⟩ := r1
  obtain ⟨t', rfl⟩ := r2
  exact iadd_int ⟨.int _, H, I.tok _, ⟨_, rfl⟩, q⟩
end

section
variable {X : Cx} {pos : Pos}
noncomputable def tWhile (c : TT) (tb : TS) : TS := fun D σ H => ∃ W : Nat → St → Hp → Prop, (∃ m, W m σ H) ∧ ∀ m σ H, W m σ H →
  c σ H fun b H1 => if b = true then ∃ N : St → Hp → Prop, (∀ σ' H', N σ' H' → ∃ m', m' < m ∧ W m' σ' H') ∧ tb { D with nx := N, ct := N, bk := D.nx } σ H1 else D.nx σ H1
theorem ps_while {c : Expr} {body : List Stmt} {tc : TT} {tb : TS} (hp : PassesOwn (model X.prog X.w) X.A X.env X.xe) (hc : PT X c tc) (hb : PSs X body tb) : PS X (.While c body [] pos) (tWhile tc tb) := by
  intro pins s σ H D I h
  obtain ⟨W, ⟨m0, w0⟩, turn⟩ := h
  refine wpAny_While (codeAny_whileLoop (fun n s' => ∃ σ' H', Inv X pins σ' H' s' ∧ W n σ' H') ?_ m0 ⟨σ, H, I, w0⟩)
  rintro n s1 ⟨σ1, H1, I1, w1⟩
  refine wpAny_passesOwn hp (thn (hc pins s1 σ1 H1 _ I1 (turn n σ1 H1 w1)) fun b s2 ⟨H2, I2, q2⟩ => ?_)
  cases b with
  | true =>
    obtain ⟨N, hN, q2⟩ := q2
    rw [if_pos rfl]
    refine wpAny_passesOwn hp (thn (hb pins s2 σ1 H2 _ I2 q2) fun f s3 q3 => ?_)
    cases f with
    | next =>
      obtain ⟨σ3, H3, I3, n3⟩ := q3
      obtain ⟨m', hm, w3⟩ := hN σ3 H3 n3
      exact ⟨m', hm, σ3, H3, I3, w3⟩
    | cont =>
      obtain ⟨σ3, H3, I3, n3⟩ := q3
      obtain ⟨m', hm, w3⟩ := hN σ3 H3 n3
      exact ⟨m', hm, σ3, H3, I3, w3⟩
    | brk => exact q3
    | ret v => exact q3
  | false =>
    rw [if_neg Bool.false_ne_true]
    exact wpAny_execs_nil ⟨σ1, H2, I2, q2⟩
end

structure It where
  go : Nat → Hp → Prop
  yld : Nat → Hp → V → Hp → Prop
  stop : Nat → Hp → Prop
noncomputable def FpOk (X : Cx) (pins : List (Addr × Obj)) (H : Hp) (b : Addr) : Prop :=
  H b = none ∧ b ≠ X.env.locals ∧ b ∉ X.fs ∧ (b ∈ X.ex ∨ X.s₀.heap.objs.size ≤ b) ∧ (∀ x c, X.env.cells.lookup x = some c → c ≠ b) ∧ ∀ p ∈ X.pn ++ pins, p.1 ≠ b
theorem Inv.fpOk {X : Cx} {pins : List (Addr × Obj)} {σ : St} {H H' : Hp} {s : Shared} {b : Addr} (I : Inv X pins σ H s) (hb : s.heap.objs.size ≤ b) (hn : H' b = none) : FpOk X pins H' b := by
  refine ⟨hn, Nat.ne_of_gt (Nat.lt_of_lt_of_le I.lt hb), I.nofs hb, .inr (Nat.le_trans I.sz hb), fun x c e z => ?_, fun p hp z => ?_⟩
  · obtain ⟨v, q⟩ := I.cell x c e
    exact absurd (Nat.lt_of_lt_of_le q.lt (by rw [z]; exact hb)) (Nat.lt_irrefl _)
  · exact absurd (Nat.lt_of_lt_of_le (Heap.lt_size (I.pin p hp).1) (by rw [z]; exact hb)) (Nat.lt_irrefl _)
structure Turn (P : Program) (w : World) (K : PySem.W.Frag) (tg : Expr) (J : It) (fp : List Addr) (it : Addr) (tn : Nat → Heap → Prop) : Prop where
  mem : it ∈ fp
  obj : ∀ i h, tn i h → ∀ b ∈ fp, ∃ o, h.get? b = some o ∧ ∀ v, o.data ≠ .cell v
  keep : ∀ i h h', tn i h → (∀ b ∈ fp, ∀ o, h.get? b = some o → h'.get? b = some o) → tn i h'
  item : ∀ (X : Cx), X.prog = P → X.w = w → X.K = K → X.calm = true → ∀ (i : Nat) (pins : List (Addr × Obj)) (s : Shared) (σ : St) (H : Hp) (E : Value → Shared → Prop), Inv X pins σ H s → (∀ b ∈ fp, FpOk X pins H b) → tn i s.heap → J.go i H →
    wpAny (model P w) X.A (pyNext (.ref it)) (fun r s1 => ∃ u, r = some u ∧
      wpAny (model P w) X.A (letOwnedTupleGo tg (.ref it) u) (fun _ s2 => ∃ x H', Inv X pins σ H' s2 ∧ RelV x u ∧ J.yld i H x H' ∧ tn (i + 1) s2.heap ∧ ∀ b ∈ fp, H' b = none) E s1) E s
  done : ∀ (X : Cx), X.prog = P → X.w = w → X.K = K → X.calm = true → ∀ (i : Nat) (pins : List (Addr × Obj)) (s : Shared) (σ : St) (H : Hp) (E : Value → Shared → Prop), Inv X pins σ H s → (∀ b ∈ fp, FpOk X pins H b) → tn i s.heap → J.stop i H →
    wpAny (model P w) X.A (pyNext (.ref it)) (fun r s1 => r = none ∧ Inv X pins σ H s1) E s
  self : ∀ (A : Around) (i : Nat) (s : Shared) (Q : Value → Shared → Prop) (E : Value → Shared → Prop), tn i s.heap → Q (.ref it) s → wpAny (model P w) A (pyIter (.ref it)) Q E s
noncomputable abbrev TI := St → Hp → (It → Hp → Prop) → Prop
noncomputable def PIE (X : Cx) (pins : List (Addr × Obj)) (σ : St) (tg : Expr) (R : It → Hp → Prop) (itv : Value) (s2 : Shared) : Prop :=
  ∃ (it : Addr) (fp : List Addr) (tn : Nat → Heap → Prop) (J : It) (H' : Hp), itv = .ref it ∧ Inv X pins σ H' s2 ∧ Turn X.prog X.w X.K tg J fp it tn ∧ tn 0 s2.heap ∧ (∀ b ∈ fp, FpOk X pins H' b) ∧ R J H'
noncomputable def PI (X : Cx) (tg iter : Expr) (wi : TI) : Prop :=
  ∀ (pins : List (Addr × Obj)) (s : Shared) (σ : St) (H : Hp) (R : It → Hp → Prop), Inv X pins σ H s → wi σ H R →
    wpAny (model X.prog X.w) X.A (eval iter X.env) (fun v s1 => wpAny (model X.prog X.w) X.A (pyIter v) (PIE X pins σ tg R) X.xe s1) X.xe s

theorem go_of {M : Model} {A : Around} {E : Value → Shared → Prop} {s : Shared} {tg : Expr} {it : Addr} {u : Value} {o : Obj} {n : String} {vs : Array Value} {Q : Unit → Shared → Prop} (ho : s.heap.get? it = some o) (hc : o.cls = .type n) (hd : o.data = .fields vs)
    (hn : ["enumerate", "zip", "dict_itemiterator", "dict_reverseitemiterator", "odict_iterator", "itertools.zip_longest", "itertools.pairwise"].contains n = false) (hQ : Q () s) : wpAny M A (letOwnedTupleGo tg (.ref it) u) Q E s := by
  unfold letOwnedTupleGo
  cases tg <;> first
    | exact wpAny_pure hQ
    | (cases u <;> first
        | exact wpAny_pure hQ
        | (refine wpAny_bind (wpAny_load ho ?_)
           rw [hc, hd]
           show wpAny M A (if (["enumerate", "zip", "dict_itemiterator", "dict_reverseitemiterator", "odict_iterator", "itertools.zip_longest", "itertools.pairwise"].contains n && vs[0]? == some (rawInt _)) = true then _ else _) Q E s
           rw [if_neg (by intro h; rw [hn, Bool.false_and] at h; cases h)]
           exact wpAny_pure hQ))

noncomputable def Itl (K : PySem.W.Frag) (a : Addr) : It :=
  ⟨fun i H => ∃ xs x, SqL K H a xs ∧ xs[i]? = some x, fun i H x H' => H' = H ∧ ∀ xs, SqL K H a xs → xs[i]? = some x, fun i H => ∃ xs, SqL K H a xs ∧ xs.length ≤ i⟩
noncomputable def Itr (lo : Int) (n : Nat) : It := ⟨fun i _ => i < n, fun i H x H' => H' = H ∧ x = .int (lo + i), fun i _ => n ≤ i⟩
theorem turn_list {P : Program} {w : World} {K : PySem.W.Frag} {tg : Expr} (a it : Addr) : Turn P w K tg (Itl K a) [it] it (fun i h => h.IsListIter it a i) where
  mem := by simp
  obj := fun i h st b hb => by
    have e : b = it := by simpa using hb
    subst e
    obtain ⟨o, e, c, d⟩ := st
    exact ⟨o, e, fun v z => by rw [d] at z; cases z⟩
  keep := fun i h h' st k => st.at fun o e => k it (by simp) o e
  item := by
    intro X hP hw hK hc i pins s σ H E I hf st hg
    subst hP hw hK
    obtain ⟨xs, x, hq, hx⟩ := hg
    obtain ⟨its, rv, p, hz⟩ := I.list hq
    obtain ⟨u, hu, ru⟩ := rv.get hx
    obtain ⟨f0, f1, f2, f3, f4, f5⟩ := hf it (by simp)
    refine wpAny_pyNext_list_item st p.isList (x := u) (by simpa using hu) fun h' st' sb => ?_
    have I1 : Inv X pins σ H { s with heap := h' } := I.turned (t' := s.toks) (fun b o hb e => (sb.2 b hb).trans e) f0 f1 f3 f4 f5
    obtain ⟨o, e, c, d⟩ := id st'
    exact ⟨u, rfl, go_of (s := { s with heap := h' }) e c d (by decide) ⟨x, H, I1, ru, ⟨rfl, fun ys hy => by rw [I.list_inj hy hq]; exact hx⟩, st', fun b hb => (hf b hb).1⟩⟩
  done := by
    intro X hP hw hK hc i pins s σ H E I hf st hg
    subst hP hw hK
    obtain ⟨xs, hq, hx⟩ := hg
    obtain ⟨its, rv, p, hz⟩ := I.list hq
    obtain ⟨f0, f1, f2, f3, f4, f5⟩ := hf it (by simp)
    have hl := rv.length
    exact wpAny_pyNext_list_end (I.ok.hd hc) st p.isList (by simp; omega) fun h' eb => ⟨rfl, I.turned (t' := s.toks) (fun b o hb e => eb b o hb e) f0 f1 f3 f4 f5⟩
  self := fun _ _ _ _ _ st h => wpAny_pyIter_listiter st h
theorem turn_range {P : Program} {w : World} {K : PySem.W.Frag} {tg : Expr} (it : Addr) (lo : Int) (n : Nat) : Turn P w K tg (Itr lo n) [it] it (fun i h => IsRangeIter h it (lo + (i : Nat) * 1) ((n : Int) - (i : Nat)) 1) where
  mem := by simp
  obj := fun i h st b hb => by
    have e : b = it := by simpa using hb
    subst e
    exact ⟨_, st, fun v z => by
      have z' : Data.fields _ = Data.cell v := z
      cases z'⟩
  keep := fun i h h' st k => k it (by simp) _ st
  item := by
    intro X hP hw hK hc i pins s σ H E I hf st hg
    subst hP hw hK
    obtain ⟨f0, f1, f2, f3, f4, f5⟩ := hf it (by simp)
    have W := Walks.range (prog := X.prog) (w := X.w) (I.ok.hd hc) it lo 1 n
    refine W.item i s _ _ hg st fun v h' tk hv st' kk => ?_
    obtain ⟨t, rfl⟩ := hv
    have I1 : Inv X pins σ H { s with heap := h', toks := tk } := I.turned (fun b o hb e => kk b o (by simpa using hb) e) f0 f1 f3 f4 f5
    refine ⟨_, rfl, go_of (s := { s with heap := h', toks := tk }) (n := "range_iterator") st' rfl rfl (by decide) ⟨.int (lo + i), H, I1, ⟨t, ?_⟩, ⟨rfl, rfl⟩, st', fun b hb => (hf b hb).1⟩⟩
    rw [Int.mul_one]
  done := by
    intro X hP hw hK hc i pins s σ H E I hf st hg
    subst hP hw hK
    obtain ⟨f0, f1, f2, f3, f4, f5⟩ := hf it (by simp)
    exact wpAny_pyNext_range_end (I.ok.hd hc) st (by have : n ≤ i := hg; omega) fun h' eb => ⟨rfl, I.turned (t' := s.toks) (fun b o hb e => eb b o hb e) f0 f1 f3 f4 f5⟩
  self := fun _ _ _ _ _ st h => wpAny_pyIter_rangeiter st h
end L2

namespace L2
open PySem PySem.Spec PyProof.Rows
section
variable {X : Cx} {tg : Expr}
noncomputable def iList (K : PySem.W.Frag) (tl : TE) : TI := fun σ H R => tl σ H fun x H1 => ∃ a, x = .ref a ∧ (∃ xs, SqL K H1 a xs) ∧ R (Itl K a) H1
theorem pi_list {l : Expr} {tl : TE} (hl : PE X l tl) : PI X tg l (iList X.K tl) := by
  intro pins s σ H R I h
  refine thn (hl pins s σ H _ I h) fun v s1 ⟨x, H1, I1, r1, q1⟩ => ?_
  obtain ⟨a, e, ⟨xs, hq⟩, q⟩ := q1
  subst e
  cases r1
  obtain ⟨its, rv, p, hz⟩ := I1.list hq
  refine wpAny_pyIter_list p.isList ?_
  refine ⟨s1.heap.objs.size, [s1.heap.objs.size], _, _, H1, rfl, I1.kept (t' := s1.toks) fun b o e => Heap.get?_push_of_some _ e, turn_list a _, ⟨_, Heap.get?_push_size _ rfl, rfl, rfl⟩, fun b hb => ?_, q⟩
  have e : b = s1.heap.objs.size := by simpa using hb
  subst e
  exact I1.fpOk (Nat.le_refl _) (I1.hok.fresh (Nat.le_refl _))
theorem range_it {pins : List (Addr × Obj)} {σ : St} {H : Hp} {s : Shared} {R : It → Hp → Prop} {E : Value → Shared → Prop} {lo hi : Int} {t u v : Tok} {tk : Nat} (I : Inv X pins σ H s) (h1 : -(2 ^ 62) ≤ lo) (h2 : lo < 2 ^ 62) (h3 : -(2 ^ 62) ≤ hi) (h4 : hi < 2 ^ 62)
    (q : R (Itr lo (hi - lo).toNat) H) : wpAny (model X.prog X.w) X.A (pyIter (.ref s.heap.objs.size)) (PIE X pins σ tg R) E { s with heap := s.heap.push { cls := .type "range", data := .fields #[.int lo t, .int hi u, .int 1 v] }, toks := tk } := by
  refine wpAny_pyIter_range (IsRange.new ..) (small_one h1 h2 h3 h4) ?_
  have I1 : Inv X pins σ H { s with heap := s.heap.push { cls := .type "range", data := .fields #[.int lo t, .int hi u, .int 1 v] }, toks := tk } := I.kept fun b o e => Heap.get?_push_of_some _ e
  refine ⟨(s.heap.push { cls := .type "range", data := .fields #[.int lo t, .int hi u, .int 1 v] }).objs.size, [(s.heap.push { cls := .type "range", data := .fields #[.int lo t, .int hi u, .int 1 v] }).objs.size], _, _, H, rfl,
    I1.kept (t' := tk) fun b o e => Heap.get?_push_of_some _ e, turn_range _ lo (hi - lo).toNat, ?_, fun b hb => ?_, q⟩
  · have e1 : lo + ((0 : Nat) : Int) * 1 = lo := by simp
    have e2 : (((hi - lo).toNat : Nat) : Int) - ((0 : Nat) : Int) = Builtin.Range.rangeSize lo hi 1 := by rw [rangeSize_one]; split <;> omega
    show IsRangeIter _ _ (lo + ((0 : Nat) : Int) * 1) ((((hi - lo).toNat : Nat) : Int) - ((0 : Nat) : Int)) 1
    rw [e1, e2]
    exact Heap.get?_push_size _ rfl
  · have e : b = (s.heap.push { cls := .type "range", data := .fields #[.int lo t, .int hi u, .int 1 v] }).objs.size := by simpa using hb
    subst e
    exact I1.fpOk (Nat.le_refl _) (I1.hok.fresh (Nat.le_refl _))
noncomputable def iRng2 (ta : TA) : TI := fun σ H R => ta σ H fun vs H1 => ∃ i j : Int, vs = [.int i, .int j] ∧ (-(2 ^ 62) ≤ i ∧ i < 2 ^ 62 ∧ -(2 ^ 62) ≤ j ∧ j < 2 ^ 62) ∧ R (Itr i (j - i).toNat) H1
theorem pi_range2 {a b : Expr} {ta : TA} {p pos : Pos} (hg : Gl X "range") (hm : X.mg "range" = none) (ha : PA X [a, b] ta) (hs : starEach [a, b] X.env = [(false, eval a X.env), (false, eval b X.env)] := by rfl) (hs2 : starEach [b] X.env = [(false, eval b X.env)] := by rfl) :
    PI X tg (.Call (.Name "range" p) [a, b] [] pos) (iRng2 ta) := by
  intro pins s σ H R I h
  refine Call_ (ld_blt I hg hm boot_range (PyProof.Rows.callWith_type1 (thn (ha pos pins s σ H _ I h) fun us s1 ⟨vs, H1, I1, r1, q1⟩ => ?_) (by rw [hs, hs2]) (by rw [hs2]; rfl)))
  obtain ⟨i, j, e, ⟨q1, q2, q3, q4⟩, q⟩ := q1
  subst e
  cases r1 with
  | cons r rr =>
    cases rr with
    | cons r' rr =>
      cases rr
      obtain ⟨t, rfl⟩ := r
      obtain ⟨t', rfl⟩ := r'
      exact call_range_2 (range_it I1 q1 q2 q3 q4 q)

noncomputable def tFor (wi : TI) (g : TG) (tb : TS) : TS := fun D σ H => wi σ H fun J H1 => ∃ W : Nat → Nat → St → Hp → Prop, (∃ m, W 0 m σ H1) ∧ ∀ i m σ H, W i m σ H →
  (J.stop i H ∧ D.nx σ H) ∨ (J.go i H ∧ ∃ N : St → Hp → Prop, (∀ σ' H', N σ' H' → ∃ m', m' < m ∧ W (i + 1) m' σ' H') ∧ ∀ x H', J.yld i H x H' → g x σ H' fun σ2 H2 => tb { D with nx := N, ct := N, bk := D.nx } σ2 H2)
noncomputable def pinsAt (fp : List Addr) (h : Heap) : List (Addr × Obj) := fp.filterMap fun b => (h.get? b).map fun o => (b, o)
theorem mem_pinsAt {fp : List Addr} {h : Heap} {b : Addr} {o : Obj} (hb : b ∈ fp) (e : h.get? b = some o) : (b, o) ∈ pinsAt fp h := List.mem_filterMap.mpr ⟨b, hb, by rw [e]; rfl⟩
theorem of_pinsAt {fp : List Addr} {h : Heap} {p : Addr × Obj} (hp : p ∈ pinsAt fp h) : p.1 ∈ fp ∧ h.get? p.1 = some p.2 := by
  obtain ⟨b, hb, e⟩ := List.mem_filterMap.mp hp
  cases q : h.get? b with
  | none => rw [q] at e; cases e
  | some o =>
    rw [q] at e
    have e' : (b, o) = p := Option.some.inj e
    subst e'
    exact ⟨hb, q⟩
theorem Inv.pinned {pins : List (Addr × Obj)} {σ : St} {H : Hp} {s : Shared} {fp : List Addr} (I : Inv X pins σ H s) (hf : ∀ b ∈ fp, FpOk X pins H b) (ho : ∀ b ∈ fp, ∃ o, s.heap.get? b = some o ∧ ∀ v, o.data ≠ .cell v) : Inv X (pins ++ pinsAt fp s.heap) σ H s :=
  I.pins_of fun p hp => (List.mem_append.mp hp).elim (fun z => I.pin p (List.mem_append_right _ z)) fun z => by
    obtain ⟨hb, e⟩ := of_pinsAt z
    obtain ⟨f0, f1, f2, _⟩ := hf p.1 hb
    obtain ⟨o, e', d⟩ := ho p.1 hb
    rw [e] at e'; cases e'
    exact ⟨e, f0, f1, f2, d⟩
theorem Inv.unpinned {pins pl : List (Addr × Obj)} {σ : St} {H : Hp} {s : Shared} (I : Inv X (pins ++ pl) σ H s) : Inv X pins σ H s := I.pins_of fun p hp => I.pin p (List.mem_append_right _ (List.mem_append_left _ hp))
theorem ps_for {iter : Expr} {body : List Stmt} {wi : TI} {g : TG} {tb : TS} {pos : Pos} (hp : PassesOwn (model X.prog X.w) X.A X.env X.xe) (hc : X.calm = true) (hi : PI X tg iter wi) (hg : PG X tg g) (hb : PSs X body tb)
    (hs : ∀ x, foldedSetIterable iter X.env x = pure x := by intro _; rfl) : PS X (.For tg iter body [] pos) (tFor wi g tb) := by
  intro pins s σ H D I h
  refine wpAny_For (thn (hi pins s σ H _ I h) fun v s1 h1 => thn h1 fun itv s2 h2 => ?_) hs
  obtain ⟨it, fp, tn, J, H2, e, I2, T, st2, f2, W, ⟨m0, w0⟩, turn⟩ := h2
  subst e
  -- what stays true of the iterator's objects through the loop
  have stat : ∀ {H' : Hp}, (∀ b ∈ fp, H' b = none) → ∀ b ∈ fp, FpOk X pins H' b := fun hn b hb => ⟨hn b hb, (f2 b hb).2⟩
  refine codeAny_forLoop_any (fun n s' => ∃ i σ' H', Inv X pins σ' H' s' ∧ tn i s'.heap ∧ (∀ b ∈ fp, H' b = none) ∧ W i n σ' H') ?_ m0 ⟨0, σ, H2, I2, st2, fun b hb => (f2 b hb).1, w0⟩
  rintro n s3 ⟨i, σ3, H3, I3, st3, fr3, w3⟩
  rcases turn i n σ3 H3 w3 with ⟨stop, qn⟩ | ⟨go, N, hN, step⟩
  · refine wpAny_passesOwn hp (thn (T.done X rfl rfl rfl hc i pins s3 σ3 H3 X.xe I3 (stat fr3) st3 stop) fun r s4 ⟨hr, I4⟩ => ?_)
    subst hr
    exact wpAny_execs_nil ⟨σ3, H3, I4, qn⟩
  · refine wpAny_passesOwn hp (thn (T.item X rfl rfl rfl hc i pins s3 σ3 H3 X.xe I3 (stat fr3) st3 go) fun r s4 ⟨u, hr, h4⟩ => ?_)
    subst hr
    refine wpAny_passesOwn hp (thn h4 fun _ s5 ⟨x, H5, I5, r5, y5, st5, fr5⟩ => ?_)
    have I5' := I5.pinned (stat fr5) (T.obj _ _ st5)
    refine wpAny_passesOwn hp (thn (hg _ s5 σ3 H5 x u _ I5' r5 (step x H5 y5)) fun _ s6 ⟨σ6, H6, I6, q6⟩ => ?_)
    refine wpAny_passesOwn hp (thn (hb _ s6 σ6 H6 _ I6 q6) fun f s7 q7 => ?_)
    have again : ∀ {σ7 : St} {H7 : Hp}, Inv X (pins ++ pinsAt fp s5.heap) σ7 H7 s7 → N σ7 H7 → ∃ m, m < n ∧ ∃ i σ' H', Inv X pins σ' H' s7 ∧ tn i s7.heap ∧ (∀ b ∈ fp, H' b = none) ∧ W i m σ' H' := fun {σ7 H7} I7 n7 => by
      obtain ⟨m', hm, w7⟩ := hN σ7 H7 n7
      refine ⟨m', hm, i + 1, σ7, H7, I7.unpinned, T.keep _ _ _ st5 fun b hb o e => (I7.pin (b, o) (List.mem_append_right _ (List.mem_append_right _ (mem_pinsAt hb e)))).1, fun b hb => ?_, w7⟩
      obtain ⟨o, e, d⟩ := T.obj _ _ st5 b hb
      exact (I7.pin (b, o) (List.mem_append_right _ (List.mem_append_right _ (mem_pinsAt hb e)))).2.1
    cases f with
    | next => obtain ⟨σ7, H7, I7, n7⟩ := q7; exact again I7 n7
    | cont => obtain ⟨σ7, H7, I7, n7⟩ := q7; exact again I7 n7
    | brk => obtain ⟨σ7, H7, I7, q7⟩ := q7; exact ⟨σ7, H7, I7.unpinned, q7⟩
    | ret v => obtain ⟨x7, σ7, H7, I7, r7, q7⟩ := q7; exact ⟨x7, σ7, H7, I7.unpinned, r7, q7⟩
end

theorem for_list {K : PySem.W.Frag} {a : Addr} {xs : List V} {g : TG} {tb : TS} {D : Ends} {σ : St} {H : Hp} (Pv : Nat → St → Hp → Prop) (h0 : Pv 0 σ H) (hl : ∀ i σ H, i ≤ xs.length → Pv i σ H → SqL K H a xs)
    (hs : ∀ i x σ H, xs[i]? = some x → Pv i σ H → g x σ H fun σ2 H2 => tb { D with nx := Pv (i + 1), ct := Pv (i + 1), bk := D.nx } σ2 H2) (hd : ∀ σ H, Pv xs.length σ H → D.nx σ H) :
    ∃ W : Nat → Nat → St → Hp → Prop, (∃ m, W 0 m σ H) ∧ ∀ i m σ H, W i m σ H →
      ((Itl K a).stop i H ∧ D.nx σ H) ∨ ((Itl K a).go i H ∧ ∃ N : St → Hp → Prop, (∀ σ' H', N σ' H' → ∃ m', m' < m ∧ W (i + 1) m' σ' H') ∧ ∀ x H', (Itl K a).yld i H x H' → g x σ H' fun σ2 H2 => tb { D with nx := N, ct := N, bk := D.nx } σ2 H2) := by
  refine ⟨fun i m σ H => m = xs.length - i ∧ i ≤ xs.length ∧ Pv i σ H, ⟨xs.length, by simp, Nat.zero_le _, h0⟩, ?_⟩
  rintro i m σ H ⟨rfl, hi, p⟩
  have q := hl i σ H hi p
  by_cases hlt : i < xs.length
  · refine .inr ⟨⟨xs, xs[i], q, by simp [hlt]⟩, Pv (i + 1), fun σ' H' p' => ⟨xs.length - (i + 1), by omega, rfl, hlt, p'⟩, fun x H' y => ?_⟩
    obtain ⟨e, y⟩ := y
    subst e
    exact hs i x σ _ (y xs q) p
  · have e : i = xs.length := by omega
    subst e
    exact .inl ⟨⟨xs, q, Nat.le_refl _⟩, hd σ H p⟩
theorem for_range {lo : Int} {n : Nat} {g : TG} {tb : TS} {D : Ends} {σ : St} {H : Hp} (Pv : Nat → St → Hp → Prop) (h0 : Pv 0 σ H)
    (hs : ∀ i σ H, i < n → Pv i σ H → g (.int (lo + i)) σ H fun σ2 H2 => tb { D with nx := Pv (i + 1), ct := Pv (i + 1), bk := D.nx } σ2 H2) (hd : ∀ σ H, Pv n σ H → D.nx σ H) :
    ∃ W : Nat → Nat → St → Hp → Prop, (∃ m, W 0 m σ H) ∧ ∀ i m σ H, W i m σ H →
      ((Itr lo n).stop i H ∧ D.nx σ H) ∨ ((Itr lo n).go i H ∧ ∃ N : St → Hp → Prop, (∀ σ' H', N σ' H' → ∃ m', m' < m ∧ W (i + 1) m' σ' H') ∧ ∀ x H', (Itr lo n).yld i H x H' → g x σ H' fun σ2 H2 => tb { D with nx := N, ct := N, bk := D.nx } σ2 H2) := by
  refine ⟨fun i m σ H => m = n - i ∧ i ≤ n ∧ Pv i σ H, ⟨n, by simp, Nat.zero_le _, h0⟩, ?_⟩
  rintro i m σ H ⟨rfl, hi, p⟩
  by_cases hlt : i < n
  · refine .inr ⟨hlt, Pv (i + 1), fun σ' H' p' => ⟨n - (i + 1), by omega, rfl, hlt, p'⟩, fun x H' y => ?_⟩
    obtain ⟨e, y⟩ := y
    subst e y
    exact hs i σ _ hlt p
  · have e : i = n := by omega
    subst e
    exact .inl ⟨Nat.le_refl _, hd σ H p⟩
end L2

namespace L2
open PySem PySem.Spec PyProof.Rows

noncomputable abbrev R2 := V → V → Hp → VK → Prop
noncomputable def OpR (X : Cx) (f : Value → Value → Sem Value) (r : R2) : Prop :=
  ∀ (pins : List (Addr × Obj)) (s : Shared) (σ : St) (H : Hp) (x y : V) (v u : Value) (Q : VK), Inv X pins σ H s → RelV x v → RelV y u → r x y H Q →
    wpAny (model X.prog X.w) X.A (f v u) (EP X pins σ Q) X.xe s
noncomputable def UnR (X : Cx) (f : Value → Sem Value) (r : V → Hp → VK → Prop) : Prop :=
  ∀ (pins : List (Addr × Obj)) (s : Shared) (σ : St) (H : Hp) (x : V) (v : Value) (Q : VK), Inv X pins σ H s → RelV x v → r x H Q →
    wpAny (model X.prog X.w) X.A (f v) (EP X pins σ Q) X.xe s
noncomputable def CallR (X : Cx) (f : Value) (r : List V → Hp → VK → Prop) : Prop :=
  ∀ (pins : List (Addr × Obj)) (s : Shared) (σ : St) (H : Hp) (xs : List V) (us : List Value) (Q : VK), Inv X pins σ H s → Vals xs us → r xs H Q →
    wpAny (model X.prog X.w) X.A (call f us) (EP X pins σ Q) X.xe s
noncomputable def tOp (r : R2) (ta tb : TE) : TE := fun σ H Q => ta σ H fun x H1 => tb σ H1 fun y H2 => r x y H2 Q
noncomputable def tUn (r : V → Hp → VK → Prop) (ta : TE) : TE := fun σ H Q => ta σ H fun x H1 => r x H1 Q
noncomputable def rI (C : Int → Int → Prop) (g : Int → Int → V) : R2 := fun x y H Q => ∃ i j, x = .int i ∧ y = .int j ∧ C i j ∧ Q (g i j) H
noncomputable def rI0 (g : Int → Int → V) : R2 := fun x y H Q => ∃ i j, x = .int i ∧ y = .int j ∧ Q (g i j) H
noncomputable def rU (g : Int → V) : V → Hp → VK → Prop := fun x H Q => ∃ i, x = .int i ∧ Q (g i) H

section
variable {X : Cx} {a b c : Expr} {ta tb tc : TE} {pos : Pos}

theorem binT (ha : PE X a ta) (hb : PE X b tb) {pins : List (Addr × Obj)} {s : Shared} {σ : St} {H : Hp} {R : V → V → Hp → Prop} (I : Inv X pins σ H s)
    (h : ta σ H fun x H1 => tb σ H1 fun y H2 => R x y H2) {Q : Value → Shared → Prop} {f : Value → Value → Sem Value}
    (hf : ∀ v u s2 x y H2, Inv X pins σ H2 s2 → RelV x v → RelV y u → R x y H2 → wpAny (model X.prog X.w) X.A (f v u) Q X.xe s2) :
    wpAny (model X.prog X.w) X.A (eval a X.env) (fun v s₁ => wpAny (model X.prog X.w) X.A (eval b X.env) (fun u s₂ => wpAny (model X.prog X.w) X.A (f v u) Q X.xe s₂) X.xe s₁) X.xe s := by
  refine thn (ha pins s σ H _ I h) fun v s1 ⟨x, H1, I1, r1, q1⟩ => ?_
  refine thn (hb pins s1 σ H1 _ I1 q1) fun u s2 ⟨y, H2, I2, r2, q2⟩ => ?_
  exact hf v u s2 x y H2 I2 r1 r2 q2

theorem pe_op {op : Operator} {r : R2} (ho : OpR X (binaryOp op) r) (ha : PE X a ta) (hb : PE X b tb) : PE X (.BinOp a op b pos) (tOp r ta tb) := by
  intro pins s σ H Q I h
  exact wpAny_BinOp (binT ha hb I h fun v u s2 x y H2 I2 rx ry q => ho pins s2 σ H2 x y v u Q I2 rx ry q)
theorem pe_un {op : UnaryOp} {r : V → Hp → VK → Prop} (ho : UnR X (unaryOp op) r) (ha : PE X a ta) : PE X (.UnaryOp op a pos) (tUn r ta) := by
  intro pins s σ H Q I h
  exact UnaryOp_ (thn (ha pins s σ H _ I h) fun v s1 ⟨x, H1, I1, r1, q1⟩ => ho pins s1 σ H1 x v Q I1 r1 q1)
theorem opI {f : Value → Value → Sem Value} {C : Int → Int → Prop} {g : Int → Int → Int}
    (rule : ∀ (i j : Int) (t u : Tok) (s : Shared) (Q : Value → Shared → Prop) (E : Value → Shared → Prop), C i j → Q (.int (g i j) s.toks) { s with toks := s.toks + 1 } → wpAny (model X.prog X.w) X.A (f (.int i t) (.int j u)) Q E s) :
    OpR X f (rI C fun i j => .int (g i j)) := by
  intro pins s σ H x y v u Q I rx ry h
  obtain ⟨i, j, rfl, rfl, hc, q⟩ := h
  obtain ⟨t, rfl⟩ := rx
  obtain ⟨t', rfl⟩ := ry
  exact rule i j t t' s _ _ hc ⟨.int (g i j), H, I.tok _, ⟨_, rfl⟩, q⟩
theorem opI0 {f : Value → Value → Sem Value} {g : Int → Int → Int}
    (rule : ∀ (i j : Int) (t u : Tok) (s : Shared) (Q : Value → Shared → Prop) (E : Value → Shared → Prop), Q (.int (g i j) s.toks) { s with toks := s.toks + 1 } → wpAny (model X.prog X.w) X.A (f (.int i t) (.int j u)) Q E s) :
    OpR X f (rI0 fun i j => .int (g i j)) := by
  intro pins s σ H x y v u Q I rx ry h
  obtain ⟨i, j, rfl, rfl, q⟩ := h
  obtain ⟨t, rfl⟩ := rx
  obtain ⟨t', rfl⟩ := ry
  exact rule i j t t' s _ _ ⟨.int (g i j), H, I.tok _, ⟨_, rfl⟩, q⟩
theorem opB0 {f : Value → Value → Sem Value} {g : Int → Int → Bool}
    (rule : ∀ (i j : Int) (t u : Tok) (s : Shared) (Q : Value → Shared → Prop) (E : Value → Shared → Prop), Q (.bool (g i j)) s → wpAny (model X.prog X.w) X.A (f (.int i t) (.int j u)) Q E s) :
    OpR X f (rI0 fun i j => .bl (g i j)) := by
  intro pins s σ H x y v u Q I rx ry h
  obtain ⟨i, j, rfl, rfl, q⟩ := h
  obtain ⟨t, rfl⟩ := rx
  obtain ⟨t', rfl⟩ := ry
  exact rule i j t t' s _ _ ⟨.bl (g i j), H, I, rfl, q⟩

noncomputable def CPow (i j : Int) : Prop := 0 ≤ j ∧ j ≤ 1000000 ∧ i.natAbs < 2 ^ 64
noncomputable def CMul (i j : Int) : Prop := (-(2 ^ 64) < i ∧ i < 2 ^ 64) ∨ (-(2 ^ 64) < j ∧ j < 2 ^ 64)
theorem CMul.ok {i j : Int} (h : CMul i j) : IntMulOk i j := by
  rcases h with ⟨h1, h2⟩ | ⟨h1, h2⟩
  · exact .of_left (intBits_le_64 h1 h2)
  · exact .of_right (intBits_le_64 h1 h2)
theorem op_add : OpR X (binaryOp .Add) (rI0 fun i j => .int (i + j)) := opI0 fun _ _ _ _ _ _ _ q => add_int q
theorem op_sub : OpR X (binaryOp .Sub) (rI0 fun i j => .int (i - j)) := opI0 fun _ _ _ _ _ _ _ q => sub_int q
theorem op_mod : OpR X (binaryOp .Mod) (rI (fun _ j => 0 < j) fun i j => .int (i % j)) := opI fun i j _ _ _ _ _ hc q => by
  have h1 : (0 : Int) < j := hc
  exact mod_int' (by omega) (by rw [Int.fmod_eq_emod_of_nonneg i (by omega)]; exact q)
theorem op_pow : OpR X (binaryOp .Pow) (rI CPow fun i j => .int (i ^ j.toNat)) := opI fun _ _ _ _ _ _ _ hc q => pow_int_small hc.1 hc.2.1 hc.2.2 q
theorem unI {f : Value → Sem Value} {g : Int → Int}
    (rule : ∀ (i : Int) (t : Tok) (s : Shared) (Q : Value → Shared → Prop) (E : Value → Shared → Prop), Q (.int (g i) s.toks) { s with toks := s.toks + 1 } → wpAny (model X.prog X.w) X.A (f (.int i t)) Q E s) :
    UnR X f (rU fun i => .int (g i)) := by
  intro pins s σ H x v Q I rx h
  obtain ⟨i, rfl, q⟩ := h
  obtain ⟨t, rfl⟩ := rx
  exact rule i t s _ _ ⟨.int (g i), H, I.tok _, ⟨_, rfl⟩, q⟩
theorem un_neg : UnR X (unaryOp .USub) (rU fun i => .int (-i)) := unI fun _ _ _ _ _ q => neg_int q
end

noncomputable def scal : V → V → Bool
  | .non, .non => true | .non, .int _ => true | .int _, .non => true | .non, .bl _ => true | .bl _, .non => true | .non, .str _ => true | .str _, .non => true
  | .int _, .int _ => true | .bl _, .bl _ => true | .str _, .str _ => true | .byt _, .byt _ => true
  | .int _, .str _ => true | .str _, .int _ => true | .bl _, .str _ => true | .str _, .bl _ => true
  | _, _ => false
noncomputable def rEq : R2 := fun x y H Q => scal x y = true ∧ Q (.bl (decide (x = y))) H
theorem dec_int {i j : Int} : decide (V.int i = V.int j) = (i == j) := by
  rw [Bool.eq_iff_iff]
  simp
theorem dec_bl {i j : Bool} : decide (V.bl i = V.bl j) = (i == j) := by
  rw [Bool.eq_iff_iff]
  simp
theorem dec_str {i j : Str} : decide (V.str i = V.str j) = (i == j) := by
  rw [Bool.eq_iff_iff]
  simp
theorem dec_byt {i j : Array UInt8} : decide (V.byt i = V.byt j) = (i.toList == j.toList) := by
  rw [Bool.eq_iff_iff]
  cases i
  cases j
  simp

section
variable {X : Cx} {a b c : Expr} {ta tb tc : TE} {pos : Pos}
theorem fin_bl {pins : List (Addr × Obj)} {σ : St} {H : Hp} {s : Shared} {Q : VK} {k k' : Bool} (I : Inv X pins σ H s) (q : Q (.bl k) H) (e : k = k') : EP X pins σ Q (.bool k') s := by
  subst e
  exact ⟨.bl k, H, I, rfl, q⟩
theorem op_eq : OpR X (compareOp .Eq) rEq := by
  intro pins s σ H x y v u Q I rx ry h
  obtain ⟨hs, q⟩ := h
  cases x with
  | non =>
    cases rx
    cases y with
    | non => cases ry; exact PySem.EqNone.eq_none_none (fin_bl I q (by simp))
    | bl j => cases ry; exact PySem.EqNone.eq_none_bool (fin_bl I q (by simp))
    | int j => obtain ⟨t', rfl⟩ := ry; exact PySem.EqNone.eq_none_int (fin_bl I q (by simp))
    | str j => obtain ⟨t', rfl⟩ := ry; exact PySem.EqNone.eq_none_str (fin_bl I q (by simp))
    | _ => exact absurd (show false = true from hs) Bool.false_ne_true
  | bl i =>
    cases rx
    cases y with
    | non => cases ry; exact PySem.EqNone.eq_bool_none (fin_bl I q (by simp))
    | bl j => cases ry; exact eq_bool (fin_bl I q dec_bl)
    | str j => obtain ⟨t', rfl⟩ := ry; exact PySem.EqMixed.eq_bool_str (fin_bl I q (by simp))
    | _ => exact absurd (show false = true from hs) Bool.false_ne_true
  | int i =>
    obtain ⟨t, rfl⟩ := rx
    cases y with
    | non => cases ry; exact PySem.EqNone.eq_int_none (fin_bl I q (by simp))
    | int j => obtain ⟨t', rfl⟩ := ry; exact eq_int (fin_bl I q dec_int)
    | str j => obtain ⟨t', rfl⟩ := ry; exact PySem.EqMixed.eq_int_str (fin_bl I q (by simp))
    | _ => exact absurd (show false = true from hs) Bool.false_ne_true
  | str i =>
    obtain ⟨t, rfl⟩ := rx
    cases y with
    | non => cases ry; exact PySem.EqNone.eq_str_none (fin_bl I q (by simp))
    | bl j => cases ry; exact PySem.EqMixed.eq_str_bool (fin_bl I q (by simp))
    | int j => obtain ⟨t', rfl⟩ := ry; exact PySem.EqMixed.eq_str_int (fin_bl I q (by simp))
    | str j => obtain ⟨t', rfl⟩ := ry; exact eq_str (fin_bl I q dec_str)
    | _ => exact absurd (show false = true from hs) Bool.false_ne_true
  | byt i =>
    obtain ⟨t, rfl⟩ := rx
    cases y with
    | byt j => obtain ⟨t', rfl⟩ := ry; exact PySem.W.eq_bytes (fin_bl I q dec_byt)
    | _ => exact absurd (show false = true from hs) Bool.false_ne_true
  | _ => cases y <;> exact absurd (show false = true from hs) Bool.false_ne_true
theorem op_lt : OpR X (compareOp .Lt) (rI0 fun i j => .bl (decide (i < j))) := opB0 fun _ _ _ _ _ _ _ q => lt_int q
theorem op_le : OpR X (compareOp .LtE) (rI0 fun i j => .bl (decide (i ≤ j))) := opB0 fun _ _ _ _ _ _ _ q => le_int q
theorem op_ge : OpR X (compareOp .GtE) (rI0 fun i j => .bl (decide (j ≤ i))) := opB0 fun _ _ _ _ _ _ _ q => ge_int q
theorem OpR.or {f : Value → Value → Sem Value} {r r' : R2} (h : OpR X f r) (h' : OpR X f r') : OpR X f (fun x y H Q => r x y H Q ∨ r' x y H Q) := by
  intro pins s σ H x y v u Q I rx ry q
  rcases q with q | q
  · exact h pins s σ H x y v u Q I rx ry q
  · exact h' pins s σ H x y v u Q I rx ry q

theorem nomark (b : Expr) {op : CmpOp} (h : op ≠ .In := by decide) (h2 : op ≠ .NotIn := by decide) : behindInMarks op b = false := by
  have e1 : (op == CmpOp.In) = false := by cases op <;> first | rfl | exact absurd rfl h
  have e2 : (op == CmpOp.NotIn) = false := by cases op <;> first | rfl | exact absurd rfl h2
  cases b <;> simp [behindInMarks, e1, e2]
theorem pe_cmpR {op : CmpOp} {r : R2} (ho : OpR X (compareOp op) r) (ha : PE X a ta) (hb : PE X b tb) (hm : behindInMarks op b = false) : PE X (.Compare a [op] [b] pos) (tOp r ta tb) := by
  intro pins s σ H Q I h
  exact wpAny_Compare1 (binT ha hb I h fun v u s2 x y H2 I2 rx ry q => ho pins s2 σ H2 x y v u Q I2 rx ry q) hm
noncomputable def tTest (t : TE) : TT := fun σ H Q => t σ H fun x H' => ∃ k, x = .bl k ∧ Q k H'
theorem pt_cmpR {op : CmpOp} {r : R2} (ho : OpR X (compareOp op) r) (ha : PE X a ta) (hb : PE X b tb) (hm : behindInMarks op b = false) : PT X (.Compare a [op] [b] pos) (tTest (tOp r ta tb)) := by
  intro pins s σ H Q I h
  refine wpAny_isTrue_Compare1 (thn (ha pins s σ H _ I h) fun v s1 ⟨x, H1, I1, r1, q1⟩ => thn (hb pins s1 σ H1 _ I1 q1) fun u s2 ⟨y, H2, I2, r2, q2⟩ =>
    thn (ho pins s2 σ H2 x y v u _ I2 r1 r2 q2) fun c s3 ⟨z, H3, I3, r3, k, e, q3⟩ => ?_) hm
  subst e
  cases r3
  exact wpAny_truthy_bool ⟨H3, I3, q3⟩
noncomputable def tChain (r r' : R2) (ta tb tc : TE) : TE := fun σ H Q => ta σ H fun x H1 => tb σ H1 fun y H2 => r x y H2 fun z H3 => ∃ k, z = .bl k ∧
  (if k = true then tc σ H3 fun w' H4 => r' y w' H4 Q else Q (.bl false) H3)
theorem pe_chain {op op' : CmpOp} {r r' : R2} (ho : OpR X (compareOp op) r) (ho' : OpR X (compareOp op') r') (ha : PE X a ta) (hb : PE X b tb) (hc : PE X c tc)
    (hm : lastMarks [op, op'] [b, c] = false := by with_unfolding_all rfl) : PE X (.Compare a [op, op'] [b, c] pos) (tChain r r' ta tb tc) := by
  intro pins s σ H Q I h
  refine Compare_chain (thn (ha pins s σ H _ I h) fun v s1 ⟨x, H1, I1, r1, q1⟩ => chain_link (thn (hb pins s1 σ H1 _ I1 q1) fun u s2 ⟨y, H2, I2, r2, q2⟩ =>
    thn (ho pins s2 σ H2 x y v u _ I2 r1 r2 q2) fun d s3 ⟨z, H3, I3, r3, k, e, q3⟩ => ?_)) hm
  subst e
  cases r3
  refine wpAny_truthy_bool ?_
  cases k with
  | false => exact ite_ff ⟨.bl false, H3, I3, rfl, q3⟩
  | true => exact ite_tt (chain_last (thn (hc pins s3 σ H3 _ I3 q3) fun w' s4 ⟨z', H4, I4, r4, q4⟩ => ho' pins s4 σ H4 y z' u w' Q I4 r2 r4 q4))
theorem line63 : (sizeLine : Nat) < 2 ^ 63 := by rw [sizeLine_eq]; decide
theorem vals1 {x : V} {us : List Value} (r : Vals [x] us) : ∃ u, us = [u] ∧ RelV x u := by
  cases r with
  | cons r1 r2 => cases r2; exact ⟨_, rfl, r1⟩
theorem vals2 {x y : V} {us : List Value} (r : Vals [x, y] us) : ∃ u w', us = [u, w'] ∧ RelV x u ∧ RelV y w' := by
  cases r with
  | cons r1 r2 =>
    cases r2 with
    | cons r3 r4 => cases r4; exact ⟨_, _, rfl, r1, r3⟩
theorem call_max2 (hc : X.calm = true) : CallR X (.builtin "max") (fun xs H Q => ∃ i j, xs = [.int i, .int j] ∧ Q (.int (if j > i then j else i)) H) := by
  intro pins s σ H xs us Q I r h
  obtain ⟨i, j, rfl, q⟩ := h
  obtain ⟨u, w', rfl, ⟨t, rfl⟩, ⟨t', rfl⟩⟩ := vals2 r
  refine max_two_ints (I.ok.hd hc) fun h' tk k => ⟨_, H, I.kept k, ?_, q⟩
  by_cases hj : j > i
  · rw [if_pos hj, if_pos hj]; exact ⟨_, rfl⟩
  · rw [if_neg hj, if_neg hj]; exact ⟨_, rfl⟩
end
end L2

namespace L2
open PySem PySem.Spec PyProof.Rows

structure ObjM (h : Heap) (x dx C : Addr) (mA : Str → Option Value) : Prop where
  obj : h.get? x = some (PySem.W.instObj C dx)
  ns : h.Ns1 dx mA
  ne : dx ≠ x

theorem lookIn_ns {h : Heap} {dx : Addr} {mA : Str → Option Value} (n : h.Ns1 dx mA) : ∃ od, h.get? dx = some od ∧ ∀ name, PySem.W.lookIn name od = some (mA name) := by
  obtain ⟨o, es, ep, ho, hd, hk, _, hm⟩ := n
  refine ⟨o, ho, fun name => ?_⟩
  have e := hm name
  unfold nsFind findBy at e
  rw [← Array.find?_toList] at e
  unfold PySem.W.lookIn
  rw [hd]
  dsimp only
  split
  · rename_i y q
    rw [q] at e
    exact congrArg some e
  · rename_i q
    rw [q] at e
    have a : es.toList.any (·.refKey) = false := by
      rw [List.any_eq_false]
      intro y hy
      obtain ⟨z, t, hkey⟩ := hk y (Array.mem_toList_iff.mp hy)
      simp [DictEntry.refKey, hkey]
    have a' : ¬ es.toList.any (·.refKey) = true := by rw [a]; exact Bool.false_ne_true
    rw [if_neg a']
    exact congrArg some e

theorem ObjM.look {h : Heap} {x dx C : Addr} {mA : Str → Option Value} (I : ObjM h x dx C mA) : ∃ od, PySem.W.InstAt h x (PySem.W.instObj C dx) C (some od) ∧ ∀ name, PySem.W.lookIn name od = some (mA name) :=
  let ⟨od, ho, hl⟩ := lookIn_ns I.ns
  ⟨od, ⟨I.obj, rfl, rfl, ho⟩, hl⟩

section
variable {prog : Program} {w : World} {A : Around} {E : Value → Shared → Prop} {s : Shared} {K : PySem.W.Frag} {x dx C f : Addr} {mA : Str → Option Value} {name : Str} {v : Value}

end

section
variable {P : Program} {w : World} {H H' : Hp} {h h' : Heap} {a C dx : Addr} {fs fs' : List (Str × V)}
theorem ins_get (hok : HOk P w H h) (e : H a = some (.ins C dx fs)) : ∃ mA, ObjM h a dx C mA ∧ (∀ f, RelO (fs.lookup f) (mA f)) ∧ PySem.Within mA (fs.map (·.1)) ∧ fs.length ≤ 1000 ∧ H dx = some (.own a) := by
  obtain ⟨d, z, ne, ob, mA, n, r, q⟩ := (show ObjOk P w H h a (.ins C dx fs) from hok a _ e)
  exact ⟨mA, ⟨ob, n, ne⟩, r, q, z, d⟩
end

structure Cls (K : PySem.W.Frag) (C : Addr) : Prop where
  pg : PySem.W.plainGet K C Str.empty = true
  hd : PySem.W.hasDictIn K C = true
  po : PySem.W.plainOver K C = true
  sa : PySem.W.findIn K (.ref C) "__setattr__" = some (some (.builtin "object.__setattr__"))
theorem Cls.get {K : PySem.W.Frag} {C : Addr} (c : Cls K C) (f : Str) : PySem.W.plainGet K C f = true := c.pg
section
variable {X : Cx} {pins : List (Addr × Obj)} {σ : St} {H : Hp} {s : Shared} {a C dx : Addr} {fs : List (Str × V)} {f : Str} {v : V} {A : Around} {E : Value → Shared → Prop}

theorem Inv.made (I : Inv X pins σ H s) : Inv X pins σ (upd (upd H s.heap.objs.size (.own (s.heap.objs.size + 1))) (s.heap.objs.size + 1) (.ins C s.heap.objs.size []))
    { s with heap := (s.heap.push PySem.W.emptyDict).push (PySem.W.instObj C s.heap.objs.size) } := by
  have e1 : (s.heap.push PySem.W.emptyDict).get? s.heap.objs.size = some PySem.W.emptyDict := Heap.get?_push_size s.heap rfl
  have e2 : ((s.heap.push PySem.W.emptyDict).push (PySem.W.instObj C s.heap.objs.size)).get? (s.heap.objs.size + 1) = some (PySem.W.instObj C s.heap.objs.size) := by
    have := Heap.get?_push_size (s.heap.push PySem.W.emptyDict) (o := PySem.W.instObj C s.heap.objs.size) rfl
    rwa [Heap.size_push] at this
  have e3 : (s.heap.push PySem.W.emptyDict).Ns s.heap.objs.size (fun _ => none) := ⟨PySem.W.emptyDict, #[], _, e1, rfl, (fun e he => absurd he (by simp)), fun _ => rfl⟩
  have I1 := I.laid (a := s.heap.objs.size) (o := .own (s.heap.objs.size + 1)) (h' := s.heap.push PySem.W.emptyDict) (t' := s.toks) (fun b u q => Heap.get?_push_of_some _ q) (Nat.le_refl _) ⟨_, e1⟩
  refine I1.laid (a := s.heap.objs.size + 1) (o := .ins C s.heap.objs.size []) (t' := s.toks) (fun b u q => Heap.get?_push_of_some _ q) (Nat.le_of_eq (Heap.size_push _ _)) ?_
  have ne : s.heap.objs.size ≠ s.heap.objs.size + 1 := Nat.ne_of_lt (Nat.lt_succ_self _)
  refine ⟨by rw [upd_ne ne, upd_same], Nat.zero_le _, ne, e2, fun _ => none, (Heap.Ns1.of_empty e3).at fun o q => Heap.get?_push_of_some _ q, fun _ => True.intro, fun y hy => absurd rfl hy⟩

end

section
variable {X : Cx} {o e value : Expr} {f : Str} {pos pos' tpos : Pos} {ta tv : TE}
end

section
variable {X : Cx} {pins : List (Addr × Obj)} {σ : St} {H : Hp} {s : Shared} {A : Around} {E : Value → Shared → Prop} {Q : Value → Shared → Prop} {c : Value} {b : Bool}
inductive TyOf (K : PySem.W.Frag) (H : Hp) : V → Value → Prop where
  | non : TyOf K H .non (.type "NoneType")
  | bl (x : Bool) : TyOf K H (.bl x) (.type "bool")
  | int (i : Int) : TyOf K H (.int i) (.type "int")
  | str (x : Str) : TyOf K H (.str x) (.type "str")
  | flt (x : UInt64) : TyOf K H (.flt x) (.type "float")
  | lst {a : Addr} {xs : List V} (e : H a = some (.lst xs)) : TyOf K H (.ref a) (.type "list")
  | frz {a : Addr} {o : Obj} {xs : List V} (e : H a = some (.frz o (.lst xs))) : TyOf K H (.ref a) (.type "list")
  | tup {a : Addr} {xs : List V} (e : H a = some (.tup xs)) : TyOf K H (.ref a) (.type "tuple")
  | dK {a : Addr} {kvs : List (Key × V)} (e : H a = some (.dK kvs)) : TyOf K H (.ref a) (.type "dict")
  | dT {a : Addr} {kvs : List (List Key × V)} (e : H a = some (.dT kvs)) : TyOf K H (.ref a) (.type "dict")
  | ins {a C dx : Addr} {fs : List (Str × V)} (e : H a = some (.ins C dx fs)) (cl : Cls K C) (ha : PySem.W.findIn K (.ref C) "__class__" = some (some (.builtin "object.__class__")))
      (hn : PySem.W.specialIn K (.builtin "object.__class__") "__get__" = some (some (.builtin "getset_descriptor.__get__"))) (htk : PySem.W.takesIn K (.builtin "object.__class__") = some true)
      (hm : PySem.W.mroIn K C (.type "object") = some true) : TyOf K H (.ref a) (.ref C)
theorem isinst_ok {x : V} {u t : Value} (I : Inv X pins σ H s) (rx : RelV x u) (ty : TyOf X.K H x t) (e : PySem.W.kitOne X.K t c = some b) (h : ∀ tk, Q (.bool b) { s with toks := tk }) :
    wpAny (model X.prog X.w) A (call (.builtin "isinstance") [u, c]) Q E s := by
  cases ty with
  | non => cases (show u = Value.none from rx); exact PySem.W.kia_one PySem.W.kitx_none I.kIn True.intro e (fun z => nomatch z) h
  | bl y => cases (show u = Value.bool y from rx); exact PySem.W.kia_one PySem.W.kitx_bool I.kIn True.intro e (fun z => nomatch z) h
  | int i => obtain ⟨t, q⟩ := (show ∃ t, u = Value.int i t from rx); cases q; exact PySem.W.kia_one PySem.W.kitx_int I.kIn True.intro e (fun z => nomatch z) h
  | str y => obtain ⟨t, q⟩ := (show ∃ t, u = Value.str y t from rx); cases q; exact PySem.W.kia_one PySem.W.kitx_str I.kIn True.intro e (fun z => nomatch z) h
  | flt y => obtain ⟨t, q⟩ := (show ∃ t, u = Value.float y t from rx); cases q; exact PySem.W.kia_one PySem.W.kitx_float I.kIn True.intro e (fun z => nomatch z) h
  | @lst a xs ea =>
    cases (show u = Value.ref a from rx)
    obtain ⟨_, _, n, _, h1⟩ := (show ObjOk X.prog X.w H s.heap a (.lst xs) from I.hok a _ ea)
    exact PySem.W.kia_one PySem.W.kitx_list I.kIn ⟨_, h1, rfl⟩ e (fun z => nomatch z) h
  | @frz a ob xs ea =>
    cases (show u = Value.ref a from rx)
    obtain ⟨_, _, _, n, _, h1⟩ := (show ObjOk X.prog X.w H s.heap a (.frz ob (.lst xs)) from I.hok a _ ea)
    exact PySem.W.kia_one PySem.W.kitx_list I.kIn ⟨_, h1, rfl⟩ e (fun z => nomatch z) h
  | @tup a xs ea =>
    cases (show u = Value.ref a from rx)
    obtain ⟨_, _, _, p⟩ := (show ObjOk X.prog X.w H s.heap a (.tup xs) from I.hok a _ ea)
    obtain ⟨o, h1, h2, _⟩ := p
    exact PySem.W.kia_one PySem.W.kitx_tuple I.kIn ⟨o, h1, h2⟩ e (fun z => nomatch z) h
  | @dK a kvs ea =>
    cases (show u = Value.ref a from rx)
    obtain ⟨_, _, vs, _, p⟩ := (show ObjOk X.prog X.w H s.heap a (.dK kvs) from I.hok a _ ea)
    obtain ⟨o, es, ep, h1, h2, _⟩ := p
    exact PySem.W.kia_one PySem.W.kitx_dict I.kIn ⟨o, h1, h2.1⟩ e (fun z => nomatch z) h
  | @dT a kvs ea =>
    cases (show u = Value.ref a from rx)
    obtain ⟨_, _, xs, _, o, es, ep, h1, h2, _⟩ := (show ObjOk X.prog X.w H s.heap a (.dT kvs) from I.hok a _ ea)
    exact PySem.W.kia_one PySem.W.kitx_dict I.kIn ⟨o, h1, h2.1⟩ e (fun z => nomatch z) h
  | @ins a C dx fs ea cl ha hn htk hm =>
    cases (show u = Value.ref a from rx)
    obtain ⟨mA, O, _⟩ := ins_get I.hok ea
    obtain ⟨od, J, _⟩ := O.look
    exact PySem.W.kia_one (PySem.W.kitx_own (cl.get _) cl.hd ha hn htk hm) I.kIn J e (fun z => nomatch z) h
end
end L2

namespace L2
open PySem PySem.Spec PyProof.Rows

structure Room (k : Nat) (A : Around) : Prop where
  hd : A.handled = none
  dp : A.depth + 3 * k + 5 < recursionLimit
  un : A.units + 16 * k + 200 < cLine
theorem Room.mono {j k : Nat} {A : Around} (r : Room k A) (h : j ≤ k) : Room j A := ⟨r.hd, by have := r.dp; omega, by have := r.un; omega⟩
theorem Room.deeper {k : Nat} {A : Around} (r : Room (k + 1) A) (env : Env) : Room k (A.deeper env) :=
  ⟨r.hd, by have := r.dp; show A.depth + 1 + 3 * k + 5 < _; omega, by have := r.un; show A.units + 3 + 16 * k + 200 < _; omega⟩
theorem Room.in1 {k : Nat} {A : Around} (r : Room (k + 1) A) : Room k A.in1 :=
  ⟨r.hd, by have := r.dp; show A.depth + 3 * k + 5 < _; omega, by have := r.un; show A.units + 1 + 16 * k + 200 < _; omega⟩
theorem make_depth {A : Around} {C : Addr} {us : List Value} {kw : List (Str × Value)} : (A.under (.builtin "type.__call__" ⟨.ref C :: us, kw⟩)).depth = A.depth + 1 := by
  first | rfl | simp [Around.under, Code.weight, Code.isCreation, Code.isGuard, Code.isCaller, Code.frames, Code.isFrame, guardIds]
theorem make_units {A : Around} {C : Addr} {us : List Value} {kw : List (Str × Value)} : (A.under (.builtin "type.__call__" ⟨.ref C :: us, kw⟩)).units = A.units + 1 := by
  first | rfl | simp [Around.under, Code.cUnits, Code.frames, Code.isFrame]
theorem Room.make {k : Nat} {A : Around} (r : Room (k + 1) A) (C : Addr) (us : List Value) (kw : List (Str × Value)) : Room k (A.under (.builtin "type.__call__" ⟨.ref C :: us, kw⟩)) :=
  ⟨r.hd, by have := r.dp; rw [make_depth]; omega, by have := r.un; rw [make_units]; omega⟩
theorem Room.depth {k : Nat} {A : Around} (r : Room k A) : A.depth < recursionLimit := by have := r.dp; omega
theorem Room.units {k : Nat} {A : Around} (r : Room k A) : A.units + 64 < cLine := by have := r.un; omega
noncomputable def tNil : TA := fun _ H Q => Q [] H
noncomputable def tCons (ta : TE) (tr : TA) : TA := fun σ H Q => ta σ H fun x H1 => tr σ H1 fun xs H2 => Q (x :: xs) H2
section
variable {X : Cx} {e : Expr} {es : List Expr} {te : TE} {t : TA} {pos : Pos}
theorem pa_nil : PA X [] tNil := fun _ _ _ _ H Q I h => Calls.spliced_nil ⟨[], H, I, .nil, h⟩
theorem pa_cons (ha : PE X e te) (hr : PA X es t) (hs : starEach (e :: es) X.env = (false, eval e X.env) :: starEach es X.env := by rfl) : PA X (e :: es) (tCons te t) := by
  intro pos pins s σ H Q I h
  rw [hs]
  show wpAny _ _ (spliced ((false, eval e X.env) :: backTo pos (starEach es X.env))) _ _ s
  refine Calls.spliced_cons (thn (ha pins s σ H _ I h) fun u s1 ⟨x, H1, I1, r1, q1⟩ => ?_)
  exact thn (hr pos pins s1 σ H1 _ I1 q1) fun us s2 ⟨xs, H2, I2, r2, q2⟩ => ⟨x :: xs, H2, I2, .cons r1 r2, q2⟩

noncomputable def tTup (t : TA) : TE := fun σ H Q => t σ H fun xs H1 => xs.length ≤ sizeLine ∧ ∀ p, H1 p = none → Q (.ref p) (upd H1 p (.tup xs))
noncomputable def tLst (t : TA) : TE := fun σ H Q => t σ H fun xs H1 => xs.length ≤ sizeLine ∧ ∀ p, H1 p = none → Q (.ref p) (upd H1 p (.lst xs))
theorem pe_tup {x1} (h : PA X es t) : PE X (.Tuple es x1 pos) (tTup t) := by
  intro pins s σ H Q I hq
  refine wpAny_Tuple_spliced (thn (h pos pins s σ H _ I hq) fun us s1 ⟨xs, H1, I1, r, z, q⟩ => ⟨by rw [← r.length]; exact z, ?_⟩)
  have hf : H1 s1.heap.objs.size = none := I1.hok.fresh (Nat.le_refl _)
  refine ⟨.ref s1.heap.objs.size, upd H1 s1.heap.objs.size (.tup xs), I1.laid (t' := s1.toks) (fun b u e => Heap.get?_push_of_some _ e) (Nat.le_refl _) ?_, rfl, q _ hf⟩
  exact ⟨z, us, r, ⟨_, Heap.get?_push_size _ rfl, rfl, _, rfl⟩⟩
theorem pe_lst (h : PA X es t) : PE X (.List es pos) (tLst t) := by
  intro pins s σ H Q I hq
  refine wpAny_List_spliced (thn (h pos pins s σ H _ I hq) fun us s1 ⟨xs, H1, I1, r, z, q⟩ => ⟨by rw [← r.length]; exact z, ?_⟩)
  have hf : H1 s1.heap.objs.size = none := I1.hok.fresh (Nat.le_refl _)
  refine ⟨.ref s1.heap.objs.size, upd H1 s1.heap.objs.size (.lst xs), I1.laid (t' := s1.toks) (fun b u e => Heap.get?_push_of_some _ e) (Nat.le_refl _) ?_, rfl, q _ hf⟩
  exact ⟨z, us, 0, r, Heap.get?_push_size _ rfl⟩
end

noncomputable abbrev Sp := List V → Hp → VK → XK → Prop
noncomputable abbrev CXT := List Env → Hp → Shared → XK → Value → Shared → Prop

structure Env0 (P : Program) (w : World) (K : PySem.W.Frag) (mg : Str → Option Value) (base : Heap) (A : Around) (outer : List Env) (s : Shared) (H : Hp) : Prop where
  frames : A.frames = some outer
  mod : Mod K mg base
  bs : ∀ b o, base.get? b = some o → s.heap.get? b = some o ∧ H b = none
  bsz : base.objs.size ≤ s.heap.objs.size
  funs : s.heap.FunFrames base outer
  frf : ∀ b ∈ frs outer, H b = none
  hok : HOk P w H s.heap
  bare : AllBare s.gens
noncomputable def CE (outer : List Env) (P : Program) (w : World) (H : Hp) (s : Shared) (Q : VK) (u : Value) (s' : Shared) : Prop :=
  ∃ v H', s'.os = s.os ∧ AllBare s'.gens ∧ Un (frs outer) [] H H' s.heap s'.heap ∧ HOk P w H' s'.heap ∧ RelV v u ∧ Q v H'
noncomputable def CR (CX : CXT) (outer : List Env) (P : Program) (w : World) (H : Hp) (s : Shared) (Q : VK) (E : XK) (r : Result) (s' : Shared) : Prop :=
  match r with
  | .ok (.ret u) => CE outer P w H s Q u s'
  | .ok _ => False
  | .error e => CX outer H s E e s'
structure FnOk (P : Program) (w : World) (K : PySem.W.Frag) (mg : Str → Option Value) (base : Heap) (CX : CXT) (k : Nat) (f : Addr) (fd : FuncData) (ps : List Str) (sp : Sp) : Prop where
  len : ∀ vs H Q E, sp vs H Q E → vs.length = ps.length
  run : ∀ (A : Around) (outer : List Env) (s : Shared) (H : Hp) (args : Args) (us : List Value) (vs : List V) (Q : VK) (E : XK), Room k A → Env0 P w K mg base A outer s H → BindsTo s fd args (ps.zip us) → Vals vs us → sp vs H Q E →
    codeAny (model P w) A (.call (.ref f) args) (CR CX outer P w H s Q E) s
theorem FnOk.mono {P : Program} {w : World} {K : PySem.W.Frag} {mg : Str → Option Value} {base : Heap} {CX : CXT} {j k : Nat} {f : Addr} {fd : FuncData} {ps : List Str} {sp : Sp} (F : FnOk P w K mg base CX j f fd ps sp) (h : j ≤ k) :
    FnOk P w K mg base CX k f fd ps sp := ⟨F.len, fun A outer s H args us vs Q E hr => F.run A outer s H args us vs Q E (hr.mono h)⟩
theorem FnOk.imp {P : Program} {w : World} {K : PySem.W.Frag} {mg : Str → Option Value} {base : Heap} {CX : CXT} {k : Nat} {f : Addr} {fd : FuncData} {ps : List Str} {sp sp' : Sp} (F : FnOk P w K mg base CX k f fd ps sp)
    (h : ∀ vs H Q E, sp' vs H Q E → sp vs H Q E) : FnOk P w K mg base CX k f fd ps sp' :=
  ⟨fun vs H Q E q => F.len vs H Q E (h _ _ _ _ q), fun A outer s H args us vs Q E hr he hb hv hs => F.run A outer s H args us vs Q E hr he hb hv (h _ _ _ _ hs)⟩

theorem Env0.make {P : Program} {w : World} {K : PySem.W.Frag} {mg : Str → Option Value} {base : Heap} {A : Around} {outer : List Env} {s : Shared} {H : Hp} (e : Env0 P w K mg base A outer s H) (C : Addr) (us : List Value) (kw : List (Str × Value)) :
    Env0 P w K mg base (A.under (.builtin "type.__call__" ⟨.ref C :: us, kw⟩)) outer s H := ⟨by first | exact e.frames | (simpa [Around.under, Code.envs, Code.isFrame, pushEnvs] using e.frames), e.mod, e.bs, e.bsz, e.funs, e.frf, e.hok, e.bare⟩
theorem Env0.in1 {P : Program} {w : World} {K : PySem.W.Frag} {mg : Str → Option Value} {base : Heap} {A : Around} {outer : List Env} {s : Shared} {H : Hp} (e : Env0 P w K mg base A outer s H) :
    Env0 P w K mg base A.in1 outer s H := ⟨e.frames, e.mod, e.bs, e.bsz, e.funs, e.frf, e.hok, e.bare⟩

section
variable {X : Cx} {pins : List (Addr × Obj)} {σ : St} {H : Hp} {s s' : Shared}
theorem Inv.env0 (I : Inv X pins σ H s) : Env0 X.prog X.w X.K X.mg X.base X.A X.stack s H :=
  ⟨I.ok.frames, I.ok.mod, I.bs, Nat.le_trans I.ok.bsz I.sz, I.stack, I.stkFree, I.hok, I.bare⟩
theorem Inv.after {Q : VK} {u : Value} (I : Inv X pins σ H s) (h : CE X.stack X.prog X.w H s Q u s') : EP X pins σ Q u s' := by
  obtain ⟨v, H', os, bare, un, hok, r, q⟩ := h
  obtain ⟨hh, g, d, t, os'⟩ := s'
  obtain rfl : os' = s.os := os
  exact ⟨v, H', I.call (h' := hh) (g' := g) (d' := d) (t' := t) (ch := []) un hok bare (fun b z => absurd z (by simp)), r, q⟩
end

noncomputable def tCall (sp : Sp) (dvs : List V) (E : XK) (t : TA) : TE := fun σ H Q => t σ H fun vs H1 => sp (vs ++ dvs) H1 Q E
noncomputable def Binds (K : PySem.W.Frag) (fd : FuncData) (ps : List Str) (ds : List Value) : Prop :=
  ∀ (s : Shared) (us : List Value), K.In s.heap → (us ++ ds).length = ps.length → BindsTo s fd ⟨us, []⟩ (ps.zip (us ++ ds))
theorem Binds.all {K : PySem.W.Frag} {fd : FuncData} {ps : List Str} (h : ∀ us : List Value, us.length = ps.length → bindArgs fd ⟨us, []⟩ = pure (ps.zip us)) : Binds K fd ps [] := fun s us _ hl => by
  rw [List.append_nil] at hl ⊢
  exact .of_eq (h us hl)

noncomputable def Passes (CX : CXT) (X : Cx) (E : XK) : Prop := ∀ (pins : List (Addr × Obj)) (σ : St) (H : Hp) (s : Shared) (e : Value) (s' : Shared), Inv X pins σ H s → CX X.stack H s E e s' → X.xe e s'

section
variable {X : Cx} {CX : CXT} {k : Nat} {f C : Addr} {fd : FuncData} {ps : List Str} {sp : Sp} {dvs : List V} {ds : List Value} {E : XK} {x m : Str} {p pos apos : Pos} {e o : Expr} {es : List Expr} {ta : TE} {t : TA}

theorem run_fn {pins : List (Addr × Obj)} {σ : St} {H : Hp} {s : Shared} {Q : VK} {us : List Value} {vs : List V} (F : FnOk X.prog X.w X.K X.mg X.base CX k f fd ps sp) (hr : Room k X.A) (hb : Binds X.K fd ps ds) (hd : Vals dvs ds) (hx : Passes CX X E)
    (I : Inv X pins σ H s) (r : Vals vs us) (h : sp (vs ++ dvs) H Q E) : wpAny (model X.prog X.w) X.A (call (.ref f) us) (EP X pins σ Q) X.xe s := by
  have r2 : Vals (vs ++ dvs) (us ++ ds) := r.append hd
  have hl : (us ++ ds).length = ps.length := by rw [← r2.length]; exact F.len _ _ _ _ h
  refine wpAny_call (codeAny_mono (F.run X.A X.stack s H ⟨us, []⟩ (us ++ ds) (vs ++ dvs) Q E hr I.env0 (hb s us I.kIn hl) r2 h) fun r s' hq => ?_)
  cases r with
  | error e => exact hx pins σ H s e s' I hq
  | ok fl =>
    cases fl with
    | ret u => exact I.after hq
    | next => exact False.elim hq
    | brk => exact False.elim hq
    | cont => exact False.elim hq

theorem pe_call (F : FnOk X.prog X.w X.K X.mg X.base CX k f fd ps sp) (hr : Room k X.A) (hg : Gl X x) (hm : X.mg x = some (.ref f)) (hk : PySem.W.keepIn X.K (.ref f) = true) (hb : Binds X.K fd ps ds) (hd : Vals dvs ds) (hx : Passes CX X E)
    (ha : PA X (e :: es) t) (hdb : (x == ("__debug__" : Str)) = false := by decide) (he : starEach (e :: es) X.env = (false, eval e X.env) :: starEach es X.env := by rfl) (hpl : (backTo pos (starEach es X.env)).any (·.1) = false := by rfl) :
    PE X (.Call (.Name x p) (e :: es) [] pos) (tCall sp dvs E t) := by
  intro pins s σ H Q I h
  refine wpAny_Call_Name_kw (ld_glob I hg hm ?_ hdb)
  refine PySem.W.callWith_K (h₀ := X.base) I.ok.mod.kin hk (thn (ha pos pins s σ H _ I h) fun us s1 ⟨vs, H1, I1, r, q⟩ => ⟨I1.kIn, ?_⟩) he hpl
  exact run_fn F hr hb hd hx I1 r q
end

section
variable {X : Cx} {CX : CXT} {k : Nat} {f C : Addr} {fd : FuncData} {ps ks : List Str} {sp : Sp} {E : XK} {x m : Str} {p pos apos kpos : Pos} {e o : Expr} {es : List Expr} {kws : List Keyword} {te ta : TE} {t tk : TA} {nm : Option Str}
variable {g : List Value → List Value → List Value} {gV : List V → List V → List V}
end

structure FnScope (N P : List Str) (sc : Scope) : Prop where
  kind : sc.kind = .function
  co : sc.isCoroutine = false
  gen : sc.isGenerator = false
  nd : N.Nodup
  pre : N.take P.length = P
  par : ∀ x ∈ P, sc.names.lookup x = some .local ∨ sc.names.lookup x = some .cell
  nofree : ∀ y ∈ sc.names, y.2 ≠ .free

theorem bindL_out {kindOf : Str → Option NameKind} {x : Str} : ∀ {binds : List (Str × Value)} {m : Str → Option Value}, (∀ v, (x, v) ∉ binds) → bindL kindOf binds m x = m x
  | [], _, _ => rfl
  | (n, v) :: r, m, h => by
    unfold bindL
    rw [bindL_out fun w hw => h w (List.mem_cons_of_mem _ hw)]
    split
    · have : x ≠ n := by rintro rfl; exact h v List.mem_cons_self
      simp [this]
    · rfl
theorem bindC_out {kindOf : Str → Option NameKind} {x : Str} : ∀ {binds : List (Str × Value)} {m : Str → Option Value}, (∀ v, (x, v) ∉ binds) → bindC kindOf binds m x = m x
  | [], _, _ => rfl
  | (n, v) :: r, m, h => by
    unfold bindC
    rw [bindC_out fun w hw => h w (List.mem_cons_of_mem _ hw)]
    split
    · rfl
    · have : x ≠ n := by rintro rfl; exact h v List.mem_cons_self
      simp [this]
theorem bindL_get {kindOf : Str → Option NameKind} {x : Str} {v : Value} : ∀ {P : List Str} {vs : List Value} {i : Nat} {m : Str → Option Value}, P.Nodup → P[i]? = some x → vs[i]? = some v → kindOf x = some .local →
    bindL kindOf (P.zip vs) m x = some v
  | [], _, _, _, _, h, _, _ => by simp at h
  | _ :: _, [], _, _, _, _, h, _ => by simp at h
  | p :: P, w :: vs, 0, m, nd, h1, h2, hk => by
    simp at h1 h2; subst h1; subst h2
    show bindL kindOf ((p, w) :: P.zip vs) m p = _
    unfold bindL
    rw [bindL_out fun v hv => (List.nodup_cons.mp nd).1 (List.of_mem_zip hv).1, if_pos hk]
    simp
  | p :: P, w :: vs, i + 1, m, nd, h1, h2, hk => by
    show bindL kindOf ((p, w) :: P.zip vs) m x = _
    unfold bindL
    exact bindL_get (i := i) (List.nodup_cons.mp nd).2 (by simpa using h1) (by simpa using h2) hk
theorem bindC_get {kindOf : Str → Option NameKind} {x : Str} {v : Value} : ∀ {P : List Str} {vs : List Value} {i : Nat} {m : Str → Option Value}, P.Nodup → P[i]? = some x → vs[i]? = some v → kindOf x ≠ some .local →
    bindC kindOf (P.zip vs) m x = some v
  | [], _, _, _, _, h, _, _ => by simp at h
  | _ :: _, [], _, _, _, _, h, _ => by simp at h
  | p :: P, w :: vs, 0, m, nd, h1, h2, hk => by
    simp at h1 h2; subst h1; subst h2
    show bindC kindOf ((p, w) :: P.zip vs) m p = _
    unfold bindC
    rw [bindC_out fun v hv => (List.nodup_cons.mp nd).1 (List.of_mem_zip hv).1, if_neg hk]
    simp
  | p :: P, w :: vs, i + 1, m, nd, h1, h2, hk => by
    show bindC kindOf ((p, w) :: P.zip vs) m x = _
    unfold bindC
    exact bindC_get (i := i) (List.nodup_cons.mp nd).2 (by simpa using h1) (by simpa using h2) hk

noncomputable def start (N : List Str) (vs : List V) : St := vs.map some ++ List.replicate (N.length - vs.length) none

noncomputable def cxOf (CX : CXT) (P : Program) (w : World) (K : PySem.W.Frag) (mg : Str → Option Value) (base : Heap) (N : List Str) (qual : Str) (scope : Scope) (f : Addr) (cd : Value) (A : Around) (outer : List Env) (s : Shared) (H : Hp) (E : XK) : Cx where
  prog := P
  w := w
  K := K
  mg := mg
  base := base
  A := A.deeper (envOfC qual scope s.heap.objs.size f cd)
  N := N
  s₀ := s
  H₀ := H
  env := envOfC qual scope s.heap.objs.size f cd
  outer := outer
  stack := envOfC qual scope s.heap.objs.size f cd :: outer
  ex := []
  calm := true
  fn := fun _ => true
  pn := []
  xe := fun e s' => wpAny (model P w) (A.deeper (envOfC qual scope s.heap.objs.size f cd)) (leaving (envOfC qual scope s.heap.objs.size f cd) e) (fun _ s'' => CX outer H s E e s'') (fun e' s'' => CX outer H s E e' s'') s'

theorem cell_has {sc : Scope} {n : Nat} {x : Str} (h : sc.names.lookup x = some .cell) : ∃ c, (cellsFrom n sc.names []).lookup x = some c := by
  have q := PySem.W.cellsFrom_some sc.names n [] (.inl h)
  exact Option.isSome_iff_exists.mp q

theorem inv_start {CX : CXT} {P : Program} {w : World} {K : PySem.W.Frag} {mg : Str → Option Value} {base : Heap} {N ps : List Str} {qual : Str} {scope : Scope} {f : Addr} {cd : Value} {A : Around} {outer : List Env} {s s1 : Shared} {H : Hp} {E : XK} {us : List Value} {vs : List V}
    (S : FnScope N ps scope) (hd : A.handled = none) (e0 : Env0 P w K mg base A outer s H) (hl : vs.length = ps.length) (r : Vals vs us)
    (x : InCallC s s.heap.objs.size (bindL (envOfC qual scope s.heap.objs.size f cd).kindOf (ps.zip us) fun _ => none) (cellsFrom (s.heap.objs.size + 1) scope.names []) (bindC (envOfC qual scope s.heap.objs.size f cd).kindOf (ps.zip us) fun _ => none) s1) :
    Inv (cxOf CX P w K mg base N qual scope f cd A outer s H E) [] (start N vs) H s1 := by
  have hpl : ps.length ≤ N.length := by have := congrArg List.length S.pre; rw [List.length_take] at this; omega
  obtain ⟨h1, tk, rfl, hk⟩ := x.done
  have noA : ∀ b : Addr, b ∉ (cxOf CX P w K mg base N qual scope f cd A outer s H E).ex := fun b z => absurd (show b ∈ ([] : List Addr) from z) (by simp)
  refine ⟨⟨e0.mod, S.kind, rfl, rfl, Nat.le_refl _, fun y z c h1 h2 => ?_, fun y hy => ?_, fun y c _ h => ?_, fun _ => hd, Around.frames_deeper e0.frames, .inr ⟨rfl, rfl⟩, fun b z => absurd z (noA b), e0.bs, e0.bsz, fun b _ _ => noA b, fun b z => absurd z (noA b), e0.funs, e0.frf⟩,
    rfl, e0.bare, Un.kept hk, ⟨_, x.toInCall.ns, fun i y v h1 h2 h3 => ?_⟩, fun y c h => ⟨_, x.cell y c h⟩, e0.hok.fresh (Nat.le_refl _), fun y c h => ?_, fun p hp => absurd (show p ∈ ([] : List (Addr × Obj)) from hp) (by simp), e0.hok.kept hk, ?_⟩
  · exact name_of_addr x.apart (PySem.mem_of_lookup h1) (PySem.mem_of_lookup h2)
  · have hy : scope.names.lookup y = some .cell ∨ scope.names.lookup y = some .free := hy
    rcases hy with hy | hy
    · exact cell_has hy
    · exact absurd rfl (S.nofree _ (PySem.mem_of_lookup hy))
  · exact Nat.le_of_lt (x.above y c (PySem.mem_of_lookup h))
  · have hi : i < vs.length := by
      unfold start at h2
      by_cases hi : i < vs.length
      · exact hi
      · rw [List.getElem?_append_right (by simpa using hi)] at h2
        rw [List.getElem?_replicate] at h2
        split at h2 <;> cases h2
    have ha : vs[i]? = some v := by
      unfold start at h2
      rw [List.getElem?_append_left (by simpa using hi), List.getElem?_map] at h2
      cases e : vs[i]? with
      | none => rw [e] at h2; cases h2
      | some a => rw [e] at h2; cases h2; rfl
    obtain ⟨u, hu, rv⟩ := r.get ha
    have hp : ps[i]? = some y := by
      rw [← S.pre, List.getElem?_take_of_lt (by omega)]; exact h1
    have ndP : ps.Nodup := by rw [← S.pre]; exact S.nd.sublist (List.take_sublist _ _)
    refine ⟨u, rv, ?_⟩
    rcases S.par y (List.mem_of_getElem? hp) with k | k
    · exact .inl ⟨k, bindL_get ndP hp hu k⟩
    · obtain ⟨c, e⟩ := cell_has (n := s.heap.objs.size + 1) k
      refine .inr ⟨.inl k, c, e, ?_⟩
      have q := x.cell y c e
      rw [bindC_get ndP hp hu (by show scope.names.lookup y ≠ _; rw [k]; decide)] at q
      exact q
  · exact e0.hok.fresh (Nat.le_of_lt (x.above y c (PySem.mem_of_lookup h)))
  · unfold start
    show _ = N.length
    rw [List.length_append, List.length_map, List.length_replicate]
    omega

theorem fn_of {CX : CXT} {P : Program} {w : World} {K : PySem.W.Frag} {mg : Str → Option Value} {base : Heap} {k : Nat} {f : Addr} {name qual : Str} {params : Arguments} {body : List Stmt} {scope : Scope} {dV kV doc pm cdv ct oc : Value} {an od : Option Addr}
    {osl : Array (Option Value)} {N ps : List Str} {sp : Sp} (lk : K.lookup f = some ⟨oc, od, .func (PySem.W.fnOf name qual params body scope dV kV doc pm an cdv ct), osl⟩) (hcd : PySem.W.codeIn K cdv qual = true) (S : FnScope N ps scope)
    (len : ∀ vs H Q E, sp vs H Q E → vs.length = ps.length)
    (hbody : ∀ (A : Around) (outer : List Env) (s : Shared) (H : Hp) (vs : List V) (Q : VK) (E : XK), Room k (A.deeper (envOfC qual scope s.heap.objs.size f cdv)) → sp vs H Q E →
      ∃ t, PSs (cxOf CX P w K mg base N qual scope f cdv A outer s H E) body t ∧ t { nx := fun _ H' => Q .non H', rt := Q } (start N vs) H) :
    FnOk P w K mg base CX (k + 1) f (PySem.W.fnOf name qual params body scope dV kV doc pm an cdv ct) ps sp := by
  refine ⟨len, fun A outer s H args us vs Q E hr e0 hb r hsp => ?_⟩
  have hl := len _ _ _ _ hsp
  have KX : K.In s.heap := e0.mod.kin.keeps fun b o e => (e0.bs b o e).1
  have lim : s.heap.NoLimit := e0.mod.nolimit.keeps fun b o e => (e0.bs b o e).1
  have hkind : ∀ y ∈ ps.zip us, scope.names.lookup y.1 = some .local ∨ (scope.names.lookup y.1 = some .cell ∧ ((cellsFrom (s.heap.objs.size + 1) scope.names []).lookup y.1).isSome = true) := fun ⟨n, v⟩ hy => by
    rcases S.par n (List.of_mem_zip hy).1 with q | q
    · exact .inl q
    · exact .inr ⟨q, PySem.W.cellsFrom_some _ _ _ (.inl q)⟩
  refine codeAny_call_function hr.depth (KX _ _ lk) rfl S.co S.gen rfl (PySem.W.codeRec_of KX hcd) (hb _ _ _ _ ?_)
  refine wpAny_newFunctionEnv_cells S.kind hkind fun env he s1 x => ?_
  subst he
  refine ⟨lim.keeps x.toInCall.keep, codeAny_func ?_⟩
  obtain ⟨t, ht, hq⟩ := hbody A outer s H vs Q E (hr.deeper _) hsp
  have I : Inv (cxOf CX P w K mg base N qual scope f cdv A outer s H E) [] (start N vs) H s1 := inv_start S hr.hd e0 hl r x
  refine wpAny_mono (ht [] s1 (start N vs) H _ I hq) (fun fl s' hs => ?_) fun e s' hs => hs
  have fin : ∀ {σ' : St} {H' : Hp} {v : V} {u : Value}, Inv (cxOf CX P w K mg base N qual scope f cdv A outer s H E) [] σ' H' s' → RelV v u → Q v H' → CE outer P w H s Q u s' :=
    fun {σ' H' v u} J rv q => ⟨v, H', J.os, J.bare, J.base, J.hok, rv, q⟩
  cases fl with
  | ret u =>
    obtain ⟨v, σ', H', J, rv, q⟩ := hs
    exact fin J rv q
  | next =>
    obtain ⟨σ', H', J, q⟩ := hs
    exact fin (v := V.non) (u := Value.none) J rfl q
  | brk =>
    obtain ⟨_, _, _, q⟩ := hs
    exact False.elim q
  | cont =>
    obtain ⟨_, _, _, q⟩ := hs
    exact False.elim q
end L2

namespace L2
open PySem PySem.Spec PyProof.Rows
section
variable {X : Cx} {x : Str} {p pos : Pos} {e : Expr} {es : List Expr} {t : TA} {id T : String} {r : List V → Hp → VK → Prop}

noncomputable def tCB (r : List V → Hp → VK → Prop) (t : TA) : TE := fun σ H Q => t σ H fun vs H1 => r vs H1 Q
theorem pe_callB (hc : CallR X (.builtin id) r) (hg : Gl X x) (hm : X.mg x = none) (hv : bootBuiltins x = some (.builtin id)) (ha : PA X (e :: es) t) (hn : x ≠ "__name__" := by decide) (hdb : (x == ("__debug__" : Str)) = false := by decide)
    (he : starEach (e :: es) X.env = (false, eval e X.env) :: starEach es X.env := by rfl) (hpl : (backTo pos (starEach es X.env)).any (·.1) = false := by rfl) : PE X (.Call (.Name x p) (e :: es) [] pos) (tCB r t) := by
  intro pins s σ H Q I h
  refine wpAny_Call_Name_kw (ld_blt I hg hm hv ?_ hn hdb)
  exact PyProof.Rows.callWith_builtin1 (thn (ha pos pins s σ H _ I h) fun us s1 ⟨vs, H1, I1, r1, q1⟩ => hc pins s1 σ H1 vs us Q I1 r1 q1) he hpl
theorem pe_callTy (hc : CallR X (.type T) r) (hg : Gl X x) (hm : X.mg x = none) (hv : bootBuiltins x = some (.type T)) (ha : PA X (e :: es) t) (hn : x ≠ "__name__" := by decide) (hdb : (x == ("__debug__" : Str)) = false := by decide)
    (he : starEach (e :: es) X.env = (false, eval e X.env) :: starEach es X.env := by rfl) (hpl : (backTo pos (starEach es X.env)).any (·.1) = false := by rfl) : PE X (.Call (.Name x p) (e :: es) [] pos) (tCB r t) := by
  intro pins s σ H Q I h
  refine wpAny_Call_Name_kw (ld_blt I hg hm hv ?_ hn hdb)
  exact PyProof.Rows.callWith_type1 (thn (ha pos pins s σ H _ I h) fun us s1 ⟨vs, H1, I1, r1, q1⟩ => hc pins s1 σ H1 vs us Q I1 r1 q1) he hpl
end
end L2

namespace L2
open PySem PySem.Spec PyProof.Rows

section
variable {κ : Type} [DecidableEq κ]
noncomputable def valV (kvs : List (κ × V)) (k : κ) : Option V := (kvs.find? fun kv => decide (kv.1 = k)).map (·.2)
noncomputable def putK (kvs : List (κ × V)) (k : κ) (v : V) : List (κ × V) :=
  if (kvs.any fun kv => decide (kv.1 = k)) = true then kvs.map (fun kv => if kv.1 = k then (kv.1, v) else kv) else kvs ++ [(k, v)]
noncomputable def dropK (kvs : List (κ × V)) (k : κ) : List (κ × V) := kvs.filter fun kv => decide (kv.1 ≠ k)

theorem valV_pos {p : κ × V} {r : List (κ × V)} {k : κ} (e : p.1 = k) : valV (p :: r) k = some p.2 := by simp [valV, List.find?_cons, e]
theorem valV_neg {p : κ × V} {r : List (κ × V)} {k : κ} (e : ¬ p.1 = k) : valV (p :: r) k = valV r k := by simp [valV, List.find?_cons, e]
theorem valV_any (k : κ) : ∀ kvs : List (κ × V), (kvs.any fun kv => decide (kv.1 = k)) = (valV kvs k).isSome
  | [] => rfl
  | p :: r => by
    rw [List.any_cons]
    by_cases e : p.1 = k
    · simp only [valV_pos e, decide_eq_true e, Bool.true_or, Option.isSome_some]
    · rw [valV_neg e, decide_eq_false e, Bool.false_or]; exact valV_any k r
theorem RelO.isSome_eq {o : Option V} {u : Option Value} (r : RelO o u) : o.isSome = u.isSome := by
  cases o with
  | none => cases u with
    | none => rfl
    | some _ => exact (show False from r).elim
  | some _ => cases u with
    | none => exact (show False from r).elim
    | some _ => rfl
theorem RelO.getD {o : Option V} {u : Option Value} {d : V} {d' : Value} (r : RelO o u) (rd : RelV d d') : RelV (o.getD d) (u.getD d') := by
  cases o with
  | none => cases u with
    | none => exact rd
    | some _ => exact (show False from r).elim
  | some _ => cases u with
    | none => exact (show False from r).elim
    | some _ => exact r

theorem KV.val {kvs : List (κ × V)} {vs : List (κ × Value)} (r : KV kvs vs) (k : κ) : RelO (valV kvs k) (valueAt vs k) := by
  unfold KV at r
  induction r with
  | nil => exact True.intro
  | @cons p q ps qs h t ih =>
    obtain ⟨h1, h2⟩ := h
    by_cases e : p.1 = k
    · have e' : q.1 = k := h1.symm.trans e
      have b : valueAt (q :: qs) k = some q.2 := by simp [valueAt, List.find?_cons, e']
      rw [valV_pos e, b]; exact h2
    · have e' : ¬ q.1 = k := fun z => e (h1.trans z)
      have b : valueAt (q :: qs) k = valueAt qs k := by simp [valueAt, List.find?_cons, e']
      rw [valV_neg e, b]; exact ih
theorem KV.any {kvs : List (κ × V)} {vs : List (κ × Value)} (r : KV kvs vs) (k : κ) : (kvs.any fun kv => decide (kv.1 = k)) = vs.any fun kv => decide (kv.1 = k) := by
  unfold KV at r
  induction r with
  | nil => rfl
  | cons h t ih => rw [List.any_cons, List.any_cons, ih, h.1]
theorem KV.repl {kvs : List (κ × V)} {vs : List (κ × Value)} (r : KV kvs vs) (k : κ) {y : V} {u : Value} (ry : RelV y u) :
    KV (kvs.map fun kv => if kv.1 = k then (kv.1, y) else kv) (vs.map fun kv => if kv.1 = k then (kv.1, u) else kv) := by
  unfold KV at r ⊢
  induction r with
  | nil => exact .nil
  | @cons p q ps qs h t ih =>
    rw [List.map_cons, List.map_cons]
    refine .cons ?_ ih
    obtain ⟨h1, h2⟩ := h
    by_cases e : p.1 = k
    · rw [if_pos e, if_pos (h1.symm.trans e)]; exact ⟨h1, ry⟩
    · rw [if_neg e, if_neg (fun z => e (h1.trans z))]; exact ⟨h1, h2⟩
theorem KV.put {kvs : List (κ × V)} {vs : List (κ × Value)} (r : KV kvs vs) (k : κ) {y : V} {u : Value} (ry : RelV y u) : KV (putK kvs k y) (stored vs k u) := by
  unfold putK stored
  rw [r.any k]
  by_cases e : (vs.any fun kv => decide (kv.1 = k)) = true
  · rw [if_pos e, if_pos e]; exact r.repl k ry
  · rw [if_neg e, if_neg e]; exact Paired.snoc r ⟨rfl, ry⟩
theorem KV.drop {kvs : List (κ × V)} {vs : List (κ × Value)} (r : KV kvs vs) (k : κ) : KV (dropK kvs k) (without vs k) := by
  unfold KV at r ⊢
  unfold dropK without
  induction r with
  | nil => exact .nil
  | @cons p q ps qs h t ih =>
    obtain ⟨h1, h2⟩ := h
    rw [List.filter_cons, List.filter_cons]
    by_cases e : p.1 = k
    · have a : ¬ decide (p.1 ≠ k) = true := by simp [e]
      have b : ¬ decide (q.1 ≠ k) = true := by simp [h1.symm.trans e]
      rw [if_neg a, if_neg b]; exact ih
    · have e' : ¬ q.1 = k := fun z => e (h1.trans z)
      have a : decide (p.1 ≠ k) = true := by simp [e]
      have b : decide (q.1 ≠ k) = true := by simp [e']
      rw [if_pos a, if_pos b]; exact .cons ⟨h1, h2⟩ ih
theorem KV.keys {kvs : List (κ × V)} {vs : List (κ × Value)} (r : KV kvs vs) : kvs.map (·.1) = vs.map (·.1) := by
  unfold KV at r
  induction r with
  | nil => rfl
  | cons h t ih => rw [List.map_cons, List.map_cons, ih, h.1]
theorem KV.length {kvs : List (κ × V)} {vs : List (κ × Value)} (r : KV kvs vs) : kvs.length = vs.length := Paired.length r
end


noncomputable abbrev KT (H : Hp) : List (List Key × V) → List (List Key × Addr × Value) → Prop := Paired fun p q => p.1 = q.1 ∧ H q.2.1 = some (.tup (p.1.map kV)) ∧ RelV p.2 q.2.2
theorem KT.val {H : Hp} {kvs : List (List Key × V)} {xs : List (List Key × Addr × Value)} (r : KT H kvs xs) (k : List Key) : RelO (valV kvs k) ((atKey xs k).map (·.2)) := by
  induction r with
  | nil => exact True.intro
  | @cons p q ps qs h t ih =>
    obtain ⟨h1, _, h2⟩ := h
    by_cases e : p.1 = k
    · have e' : q.1 = k := h1.symm.trans e
      have b : atKey (q :: qs) k = some q.2 := by simp [atKey, List.find?_cons, e']
      rw [valV_pos e, b]; exact h2
    · have e' : ¬ q.1 = k := fun z => e (h1.trans z)
      have b : atKey (q :: qs) k = atKey qs k := by simp [atKey, List.find?_cons, e']
      rw [valV_neg e, b]; exact ih
theorem KT.repl {H : Hp} {kvs : List (List Key × V)} {xs : List (List Key × Addr × Value)} (r : KT H kvs xs) (k : List Key) {y : V} {u : Value} (ry : RelV y u) :
    KT H (kvs.map fun kv => if kv.1 = k then (kv.1, y) else kv) (xs.map (putAt k u)) := by
  induction r with
  | nil => exact .nil
  | @cons p q ps qs h t ih =>
    rw [List.map_cons, List.map_cons]
    refine .cons ?_ ih
    obtain ⟨h1, h2, h3⟩ := h
    unfold putAt
    by_cases e : p.1 = k
    · rw [if_pos e, if_pos (h1.symm.trans e)]; exact ⟨h1, h2, ry⟩
    · rw [if_neg e, if_neg (fun z => e (h1.trans z))]; exact ⟨h1, h2, h3⟩
theorem KT.put {H : Hp} {kvs : List (List Key × V)} {xs : List (List Key × Addr × Value)} (r : KT H kvs xs) (k : List Key) {b : Addr} {y : V} {u : Value} (hb : H b = some (.tup (k.map kV))) (ry : RelV y u) :
    KT H (putK kvs k y) (storedH xs k b u) := by
  have e : (kvs.any fun kv => decide (kv.1 = k)) = (atKey xs k).isSome := by
    rw [valV_any, (r.val k).isSome_eq, Option.isSome_map]
  unfold putK storedH
  rw [e]
  by_cases q : (atKey xs k).isSome = true
  · rw [if_pos q, if_pos q]; exact r.repl k ry
  · rw [if_neg q, if_neg q]; exact Paired.snoc r ⟨rfl, hb, ry⟩
theorem KT.keeps {H H' : Hp} {kvs : List (List Key × V)} {xs : List (List Key × Addr × Value)} (r : KT H kvs xs) (ht : ∀ b ys, H b = some (.tup ys) → H' b = some (.tup ys)) : KT H' kvs xs :=
  Paired.mapP r fun _ _ z => ⟨z.1, ht _ _ z.2.1, z.2.2⟩

section
variable {P : Program} {w : World} {H : Hp} {h : Heap} {a : Addr}
end

noncomputable def DGet (H : Hp) (a : Addr) (y : V) (r : Option V) : Prop :=
  (∃ kvs k, Rd H a (.dK kvs) ∧ y = kV k ∧ r = valV kvs k) ∨ ∃ kvs k b, Rd H a (.dT kvs) ∧ y = .ref b ∧ H b = some (.tup (k.map kV)) ∧ r = valV kvs k
noncomputable def DPut (H : Hp) (a : Addr) (y v : V) (H' : Hp) : Prop :=
  (∃ kvs k, H a = some (.dK kvs) ∧ y = kV k ∧ kvs.length < sizeLine ∧ H' = upd H a (.dK (putK kvs k v))) ∨
  ∃ kvs k b, H a = some (.dT kvs) ∧ y = .ref b ∧ H b = some (.tup (k.map kV)) ∧ kvs.length < sizeLine ∧ H' = upd H a (.dT (putK kvs k v))
theorem DGet.k {H : Hp} {a : Addr} {kvs : List (Key × V)} {k : Key} (e : H a = some (.dK kvs)) : DGet H a (kV k) (valV kvs k) := .inl ⟨kvs, k, .inl e, rfl, rfl⟩
theorem DGet.t {H : Hp} {a b : Addr} {kvs : List (List Key × V)} {k : List Key} (e : H a = some (.dT kvs)) (eb : H b = some (.tup (k.map kV))) : DGet H a (.ref b) (valV kvs k) := .inr ⟨kvs, k, b, .inl e, rfl, eb, rfl⟩
theorem DPut.k {H : Hp} {a : Addr} {kvs : List (Key × V)} {k : Key} {v : V} (e : H a = some (.dK kvs)) (hl : kvs.length < sizeLine) : DPut H a (kV k) v (upd H a (.dK (putK kvs k v))) := .inl ⟨kvs, k, e, rfl, hl, rfl⟩
theorem DPut.t {H : Hp} {a b : Addr} {kvs : List (List Key × V)} {k : List Key} {v : V} (e : H a = some (.dT kvs)) (eb : H b = some (.tup (k.map kV))) (hl : kvs.length < sizeLine) :
    DPut H a (.ref b) v (upd H a (.dT (putK kvs k v))) := .inr ⟨kvs, k, b, e, rfl, eb, hl, rfl⟩


section
variable {X : Cx} {pins : List (Addr × Obj)} {σ : St} {H : Hp} {s : Shared} {a : Addr} {y v : V} {u r : Value} {o : Option V} {A : Around} {E : Value → Shared → Prop}

theorem Inv.big (I : Inv X pins σ H s) : sysModules < s.heap.objs.size := by
  have h : mainGlobals < s.heap.objs.size := (I.mod.glob.keeps I.bk).lt
  exact Nat.lt_trans (by decide) h

end

section
variable {X : Cx} {pins : List (Addr × Obj)} {σ : St} {H : Hp} {s : Shared} {a : Addr} {kvs : List (Key × V)} {k : Key} {u : Value} {A : Around} {E : Value → Shared → Prop}
end


section
variable {X : Cx} {o i e value : Expr} {pos pos' tpos : Pos} {td ty tv : TE}
end


theorem dk_empty {P : Program} {w : World} {H : Hp} (h : Heap) (hb : sysModules < h.objs.size) : ObjOk P w H (h.push { cls := .type "dict", data := .dict #[] }) h.objs.size (.dK []) :=
  ⟨Nat.zero_le _, beq_eq_false_iff_ne.mpr (Ne.symm (Nat.ne_of_lt hb)), [], .nil, Heap.DictOf.new h⟩
noncomputable def tDNewK : TE := fun _ H Q => ∀ p, H p = none → Q (.ref p) (upd H p (.dK []))
section
variable {X : Cx} {pos : Pos}
theorem pe_dnewK : PE X (.Dict [] [] pos) tDNewK := fun pins s σ H Q I h =>
  wpAny_Dict_empty ⟨.ref s.heap.objs.size, _, I.laid (a := s.heap.objs.size) (o := .dK []) (t' := s.toks) (fun _ _ q => Heap.get?_push_of_some _ q) (Nat.le_refl _) (dk_empty s.heap I.big), rfl, h _ (I.hok.fresh (Nat.le_refl _))⟩
end

noncomputable def mergeK (kvs more : List (Key × V)) : List (Key × V) := more.foldl (fun acc kv => putK acc kv.1 kv.2) kvs
theorem KV.merge : ∀ {more : List (Key × V)} {rs : List (Key × Value)} {kvs : List (Key × V)} {vs : List (Key × Value)}, KV more rs → KV kvs vs → KV (mergeK kvs more) (merged vs rs) := by
  intro more rs kvs vs r
  unfold KV at r
  induction r generalizing kvs vs with
  | nil => intro q; exact q
  | @cons p q ps qs h t ih =>
    intro r0
    have e : KV (putK kvs p.1 p.2) (stored vs q.1 q.2) := by
      have := r0.put p.1 h.2
      rw [← h.1]; exact this
    exact ih e
section
variable {X : Cx} {pins : List (Addr × Obj)} {σ : St} {H : Hp} {s : Shared} {a : Addr} {y d : V} {u r : Value} {o : Option V} {A : Around} {E : Value → Shared → Prop}
end

section
variable {X : Cx} {o e f : Expr} {apos cpos : Pos} {td ty tx : TE}
end

section
variable {X : Cx} {pins : List (Addr × Obj)} {σ : St} {H : Hp} {s : Shared} {a : Addr} {kvs : List (Key × V)} {A : Around} {E : Value → Shared → Prop}
end


section
variable {X : Cx} {pins : List (Addr × Obj)} {σ : St} {H : Hp} {s : Shared} {a : Addr} {y : V} {u : Value} {A : Around} {E : Value → Shared → Prop}
end
end L2

namespace HT
open PySem PyProof.Rows

section
open PySem.SeqAt
open PySem.AutoSeq1 (wpAny_loadPart')
open PySem.MeetsSeq PySem.MeetsSeq2 PySem.MeetsSeq3

end

section
variable {prog : Program} {w : World} {A : Around} {E : Value → Shared → Prop} {s : Shared}

end
end HT

namespace L2
open PySem PySem.Spec PyProof.Rows

noncomputable abbrev TO := St → Hp → (Option Int → Hp → Prop) → Prop
theorem intsAre_of {ns : List Int} : ∀ {us : List Value}, Vals (ns.map V.int) us → IntsAre us ns := by
  induction ns with
  | nil => intro us r; rw [List.map_nil] at r; cases r; exact .nil
  | cons n ns ih =>
    intro us r
    rw [List.map_cons] at r
    cases r with
    | cons r1 r2 =>
      obtain ⟨t, e⟩ := r1
      subst e
      exact .cons n t (ih r2)

section
variable {X : Cx} {e : Expr} {te : TE} {lo hi : Option Expr} {tl th : TO} {pos p2 : Pos}

noncomputable def SlR (X : Cx) (r : V → Option Int → Option Int → Hp → VK → Prop) : Prop :=
  ∀ (pins : List (Addr × Obj)) (s : Shared) (σ : St) (H : Hp) (x : V) (v vl vu : Value) (lo hi : Option Int) (sl : Addr) (Q : VK), Inv X pins σ H s → RelV x v → s.heap.IsSliceOf sl vl vu .none → IsPart vl lo → IsPart vu hi → r x lo hi H Q →
    ∃ T id, typeLookup (.type T) "__getitem__" = pure (some (.builtin id)) ∧ s.TypeIs v T ∧ wpAny (model X.prog X.w) X.A (getItem v (.ref sl)) (EP X pins σ Q) X.xe s
theorem SlR.or {r r' : V → Option Int → Option Int → Hp → VK → Prop} (h : SlR X r) (h' : SlR X r') : SlR X (fun x lo hi H Q => r x lo hi H Q ∨ r' x lo hi H Q) := by
  intro pins s σ H x v vl vu lo hi sl Q I rx hs pl pu q
  rcases q with q | q
  · exact h pins s σ H x v vl vu lo hi sl Q I rx hs pl pu q
  · exact h' pins s σ H x v vl vu lo hi sl Q I rx hs pl pu q
end
end L2

namespace L2
open PySem PySem.Spec PyProof.Rows

noncomputable def ixN (n : Nat) (i : Int) : Option Nat := if 0 ≤ i then (if i < n then some i.toNat else none) else if -(n : Int) ≤ i then some (i + n).toNat else none
noncomputable def atI {α : Type} (xs : List α) (i : Int) : Option α := (ixN xs.length i).bind fun j => xs[j]?
theorem ixN_seq {n : Nat} {i : Int} {j : Nat} (h : ixN n i = some j) : seqIndex? i n = some j ∧ j < n ∧ -(n : Int) ≤ i ∧ i < n := by
  unfold ixN at h
  by_cases h0 : 0 ≤ i
  · rw [if_pos h0] at h
    by_cases h1 : i < n
    · rw [if_pos h1] at h
      have e : i.toNat = j := Option.some.inj h
      exact ⟨by rw [seqIndex_of h0 h1, e], by omega, by omega, h1⟩
    · rw [if_neg h1] at h; cases h
  · rw [if_neg h0] at h
    by_cases h1 : -(n : Int) ≤ i
    · rw [if_pos h1] at h
      have e : (i + n).toNat = j := Option.some.inj h
      exact ⟨by rw [seqIndex_neg (by omega) h1, e], by omega, h1, by omega⟩
    · rw [if_neg h1] at h; cases h
theorem atI_get {α : Type} {xs : List α} {i : Int} {v : α} (h : atI xs i = some v) : ∃ j, seqIndex? i xs.length = some j ∧ xs[j]? = some v ∧ j < xs.length ∧ -(xs.length : Int) ≤ i ∧ i < xs.length := by
  unfold atI at h
  cases e : ixN xs.length i with
  | none => rw [e] at h; cases h
  | some j =>
    rw [e] at h
    obtain ⟨h1, h2, h3, h4⟩ := ixN_seq e
    exact ⟨j, h1, h, h2, h3, h4⟩
theorem atI_nat {α : Type} {xs : List α} {j : Nat} {v : α} (h : xs[j]? = some v) : atI xs (j : Int) = some v := by
  have hj : j < xs.length := (List.getElem?_eq_some_iff.mp h).1
  have e : ixN xs.length (j : Int) = some j := by
    unfold ixN
    rw [if_pos (by omega), if_pos (by omega)]; simp
  unfold atI; rw [e]; exact h
noncomputable def PlainIx (b : Expr) : Prop := ∀ o i, subscripted b false o i = operate [o, i] (getItem o i)
noncomputable def IxR (X : Cx) (r : R2) : Prop :=
  ∀ (value slice : Expr) (pins : List (Addr × Obj)) (s : Shared) (σ : St) (H : Hp) (x y : V) (v u : Value) (Q : VK), Inv X pins σ H s → RelV x v → RelV y u → r x y H Q →
    subscripted slice false v u = operate [v, u] (getItem v u) → wpAny (model X.prog X.w) X.A (subscriptTail value slice v u) (EP X pins σ Q) X.xe s
noncomputable def MtR (X : Cx) (id : String) (r : V → List V → Hp → VK → Prop) : Prop :=
  ∀ (pins : List (Addr × Obj)) (s : Shared) (σ : St) (H : Hp) (x : V) (xs : List V) (v : Value) (us : List Value) (Q : VK), Inv X pins σ H s → RelV x v → Vals xs us → r x xs H Q →
    wpAny (model X.prog X.w) X.A (call (.builtin id) (v :: us)) (EP X pins σ Q) X.xe s
section
variable {X : Cx} {a b : Expr} {ta tb : TE} {pos : Pos}
theorem IxR.or {r r' : R2} (h : IxR X r) (h' : IxR X r') : IxR X (fun x y H Q => r x y H Q ∨ r' x y H Q) := by
  intro value slice pins s σ H x y v u Q I rx ry q hs
  rcases q with q | q
  · exact h value slice pins s σ H x y v u Q I rx ry q hs
  · exact h' value slice pins s σ H x y v u Q I rx ry q hs
theorem MtR.or {id : String} {r r' : V → List V → Hp → VK → Prop} (h : MtR X id r) (h' : MtR X id r') : MtR X id (fun x xs H Q => r x xs H Q ∨ r' x xs H Q) := by
  intro pins s σ H x xs v us Q I rx rs q
  rcases q with q | q
  · exact h pins s σ H x xs v us Q I rx rs q
  · exact h' pins s σ H x xs v us Q I rx rs q
theorem pe_ix {r : R2} (hr : IxR X r) (ha : PE X a ta) (hb : PE X b tb) (hs : PlainIx b) : PE X (.Subscript a b pos) (tOp r ta tb) := by
  intro pins s σ H Q I h
  exact Subscript_ (binT ha hb I h fun v u s2 x y H2 I2 rx ry q => hr a b pins s2 σ H2 x y v u Q I2 rx ry q (hs _ _))

noncomputable def rIxL (K : PySem.W.Frag) : R2 := fun x y H Q => ∃ p xs i v, x = .ref p ∧ y = .int i ∧ SqL K H p xs ∧ atI xs i = some v ∧ Q v H
noncomputable def rIxT (K : PySem.W.Frag) : R2 := fun x y H Q => ∃ p xs i v, x = .ref p ∧ y = .int i ∧ SqT K H p xs ∧ atI xs i = some v ∧ Q v H
theorem ix_list : IxR X (rIxL X.K) := by
  intro value slice pins s σ H x y v u Q I rx ry h hs
  obtain ⟨p, xs, i, z, rfl, rfl, hq, he, q⟩ := h
  cases rx
  obtain ⟨t, rfl⟩ := ry
  obtain ⟨its, r, pl, hz⟩ := I.list hq
  obtain ⟨j, h1, h2, h3, h4, h5⟩ := atI_get he
  obtain ⟨w, ew, rw'⟩ := r.get h2
  have hl := r.length
  have hn := line63
  have fin : EP X pins σ Q w s := ⟨z, H, I, rw', q⟩
  by_cases h0 : 0 ≤ i
  · have hj : i.toNat = j := by
      rw [seqIndex_of h0 h5] at h1
      exact Option.some.inj h1
    exact item_listR pl.isList h0 (by omega) (by rw [hj]; simpa using ew) fin hs
  · have hj : (i + (its.toArray.size : Int)).toNat = j := by
      rw [seqIndex_neg (by omega) h4] at h1
      rw [List.size_toArray, ← hl]
      exact Option.some.inj h1
    exact subscriptTail_builtinR (x := w) pl.isList.typeIs slot_list_getitem.lookup
      (wpAny_getItem_list_neg (Q := fun r s' => r = w ∧ EP X pins σ Q r s') pl.isList (by omega) (by rw [List.size_toArray] <;> omega) (by omega) (by rw [hj]; simpa using ew) ⟨rfl, fin⟩) hs
theorem ix_tup : IxR X (rIxT X.K) := by
  intro value slice pins s σ H x y v u Q I rx ry h hs
  obtain ⟨p, xs, i, z, rfl, rfl, hq, he, q⟩ := h
  cases rx
  obtain ⟨t, rfl⟩ := ry
  obtain ⟨its, r, pl, hz⟩ := I.tuple hq
  obtain ⟨j, h1, h2, h3, h4, h5⟩ := atI_get he
  obtain ⟨w, ew, rw'⟩ := r.get h2
  have hl := r.length
  have hn := line63
  have fin : EP X pins σ Q w s := ⟨z, H, I, rw', q⟩
  exact subscriptTail_builtinR (x := w) pl.typeIs slot_tuple_getitem.lookup
    (getItem_tuple (j := j) (Q := fun r s' => r = w ∧ EP X pins σ Q r s') pl (by omega) (by omega) (by rw [List.size_toArray, ← hl]; exact h1) (by simpa using ew) ⟨rfl, fin⟩) hs
theorem Inv.lst {pins : List (Addr × Obj)} {σ : St} {H : Hp} {s : Shared} {p : Addr} {xs : List V} (I : Inv X pins σ H s) (h : H p = some (.lst xs)) :
    ∃ (its : List Value) (n : Nat), Vals xs its ∧ s.heap.get? p = some { cls := .type "list", data := .seq its.toArray n } ∧ xs.length ≤ sizeLine := by
  obtain ⟨z, its, n, r, e⟩ := I.hok p _ h
  exact ⟨its, n, r, e, z⟩
theorem call_len_seq : CallR X (.builtin "len") (fun xs H Q => ∃ p ys, xs = [.ref p] ∧ (SqL X.K H p ys ∨ SqT X.K H p ys) ∧ Q (.int ys.length) H) := by
  intro pins s σ H xs us Q I r h
  obtain ⟨p, ys, rfl, hq, q⟩ := h
  obtain ⟨u, rfl, rx⟩ := vals1 r
  cases rx
  have hn := line63
  rcases hq with hq | hq
  · obtain ⟨its, r', pl, hz⟩ := I.list hq
    have hlen := r'.length
    exact Calls.call_len_list pl.isList (by simp only [List.size_toArray] <;> omega) ⟨.int ys.length, H, I.tok _, ⟨s.toks + 1, by rw [List.size_toArray, hlen]⟩, q⟩
  · obtain ⟨its, r', pl, hz⟩ := I.tuple hq
    have hlen := r'.length
    exact len_tuple pl (by simp only [List.size_toArray] <;> omega) ⟨.int ys.length, H, I.tok _, ⟨s.toks + 1, by rw [List.size_toArray, hlen]⟩, q⟩
theorem CallR.or {f : Value} {r r' : List V → Hp → VK → Prop} (h : CallR X f r) (h' : CallR X f r') : CallR X f (fun xs H Q => r xs H Q ∨ r' xs H Q) := by
  intro pins s σ H xs us Q I rs q
  rcases q with q | q
  · exact h pins s σ H xs us Q I rs q
  · exact h' pins s σ H xs us Q I rs q
variable {o e : Expr} {es : List Expr} {to : TE} {t : TA} {name : Str} {apos cpos : Pos} {T id : String} {r : V → List V → Hp → VK → Prop}
/- xs.append(e), list.index on a module's tuple .. are MtR facts of 06m -/
end
end L2

namespace L2
open PySem PySem.Spec PyProof.Rows

noncomputable def MtM (X : Cx) (id : String) (r : V → List V → Hp → VK → Prop) : Prop :=
  ∀ (pins : List (Addr × Obj)) (s : Shared) (σ : St) (H : Hp) (x : V) (xs : List V) (v : Value) (us : List Value) (Q : VK), Inv X pins σ H s → RelV x v → Vals xs us → r x xs H Q →
    wpAny (model X.prog X.w) X.A (call (.builtin id) (v :: us)) (EP X pins σ Q) X.xe s

theorem Vals.one : ∀ {x : V} {us : List Value}, Vals [x] us → ∃ u, us = [u] ∧ RelV x u
  | _, _, .cons r .nil => ⟨_, rfl, r⟩
theorem Vals.two : ∀ {x y : V} {us : List Value}, Vals [x, y] us → ∃ u v, us = [u, v] ∧ RelV x u ∧ RelV y v
  | _, _, _, .cons r (.cons q .nil) => ⟨_, _, rfl, r, q⟩
theorem Vals.reverse {xs : List V} {us : List Value} (h : Vals xs us) : Vals xs.reverse us.reverse := by
  induction h with
  | nil => exact .nil
  | cons r t ih => rw [List.reverse_cons, List.reverse_cons]; exact Vals.append ih (.cons r .nil)
section
variable {X : Cx} {pins : List (Addr × Obj)} {σ : St} {H : Hp} {s : Shared} {l b : Addr} {xs ys zs : List V}

theorem Inv.lset {its its' : List Value} {n : Nat} {f : Array Value → Array Value} {t' : Nat} (I : Inv X pins σ H s) (hH : H l = some (.lst xs))
    (e : s.heap.get? l = some { cls := .type "list", data := .seq its.toArray n }) (hf : f its.toArray = its'.toArray) (hv : Vals ys its') (hz : ys.length ≤ sizeLine) :
    Inv X pins σ (upd H l (.lst ys)) { s with heap := s.heap.update l (Obj.mapSeq f), toks := t' } := by
  have q := PySem.IsL.update e f
  rw [hf] at q
  refine I.write (x := l) (e := l) (by rw [hH]; exact trivial) (.inl rfl) (fun b' u hb hu => (Heap.get?_update_other s.heap (Obj.mapSeq f) (Ne.symm hb)).trans hu) ⟨_, q⟩ ?_
  exact ⟨hz, its', _, hv, q⟩
theorem Inv.lnew {its : List Value} {t' : Nat} (I : Inv X pins σ H s) (hv : Vals ys its) (hz : ys.length ≤ sizeLine) :
    Inv X pins σ (upd H s.heap.objs.size (.lst ys)) { s with heap := s.heap.push { cls := .type "list", data := .seq its.toArray }, toks := t' } :=
  I.laid (fun _ _ q => Heap.get?_push_of_some _ q) (Nat.le_refl _) ⟨hz, its, 0, hv, Heap.get?_push_size _ rfl⟩
theorem Inv.fresh (I : Inv X pins σ H s) : H s.heap.objs.size = none := I.hok.fresh (Nat.le_refl _)
theorem Inv.lstM (I : Inv X pins σ H s) (hH : H l = some (.lst xs)) : xs.length ≤ sizeLine ∧ ∃ (its : List Value) (n : Nat), Vals xs its ∧ xs.length = its.length ∧ s.heap.get? l = some { cls := .type "list", data := .seq its.toArray n } := by
  obtain ⟨z, its, n, r, e⟩ := I.hok l _ hH
  exact ⟨z, its, n, r, r.length, e⟩

end

section
variable {X : Cx}

noncomputable def rAppend : V → List V → Hp → VK → Prop := fun x vs H Q => ∃ l xs y, x = .ref l ∧ vs = [y] ∧ H l = some (.lst xs) ∧ xs.length < sizeLine ∧ Q .non (upd H l (.lst (xs ++ [y])))
theorem mt_append : MtM X "list.append" rAppend := by
  intro pins s σ H x vs v us Q I rx rv h
  obtain ⟨l, xs, y, rfl, rfl, hH, hz, q⟩ := h
  cases rx
  obtain ⟨u, rfl, ru⟩ := rv.one
  obtain ⟨z, its, n, r, hl, e⟩ := I.lstM hH
  refine call_meets F.slot_list_append ⟨_, e, rfl⟩ F.entry_list_append (F.args_list_append_2 _ _) (PySem.list_append l its.toArray n u (by rw [List.size_toArray]; omega)) ⟨e, ?_⟩
  refine ⟨.non, _, I.lset (its' := its ++ [u]) hH e (by simp) (r.append (.cons ru .nil)) ?_, rfl, q⟩
  rw [List.length_append, List.length_singleton]
  omega

noncomputable def rCat : R2 := fun x y H Q => ∃ l b xs zs, x = .ref l ∧ y = .ref b ∧ H l = some (.lst xs) ∧ H b = some (.lst zs) ∧ xs.length + zs.length ≤ sizeLine ∧ ∀ p, H p = none → Q (.ref p) (upd H p (.lst (xs ++ zs)))
theorem op_cat : OpR X (binaryOp .Add) rCat := by
  intro pins s σ H x y v u Q I rx ry h
  obtain ⟨l, b, xs, zs, rfl, rfl, hH, hB, hz, q⟩ := h
  cases rx
  cases ry
  obtain ⟨z, its, n, r, hl, e⟩ := I.lstM hH
  obtain ⟨z2, its2, n2, r2, hl2, e2⟩ := I.lstM hB
  refine PySem.P.add_list e e2 ?_ (by rw [List.size_toArray, List.size_toArray]; omega)
  have ea : its.toArray ++ its2.toArray = (its ++ its2).toArray := by simp
  rw [ea]
  exact ⟨.ref _, _, I.lnew (t' := s.toks) (r.append r2) (by rw [List.length_append]; omega), rfl, q _ I.fresh⟩
end

section
variable {prog : Program} {w : World} {A : Around} {E : Value → Shared → Prop} {s : Shared}
set_option maxRecDepth 100000 in
end

section
variable {X : Cx}
end
end L2

namespace Att
open PySem PySem.W PySem.Calls PyProof.Rows

theorem ints_of_wellAll {P : Params} {h : Heap} : ∀ (ns : List Int) (vs : List Value), WellAll P h vs (ns.map WData.int) → IntsAre vs ns := by
  intro ns
  induction ns with
  | nil =>
    intro vs w
    rw [List.map_nil] at w
    cases w
    exact .nil
  | cons n ns ih =>
    intro vs w
    rw [List.map_cons] at w
    cases w with
    | cons a b =>
      cases a
      exact .cons _ _ (ih _ b)

theorem script_of {l : OpenLaw} {n : Nat} (hn : l.most = some n) {P : Params} {h : Heap} {args : List WData} {vals : List Value}
    (hpre : l.row.toRowW.claim.pre args = true) (hwl : WellAll P h vals args) :
    ∃ a vs ns, vals = [Value.ref a] ∧ args = [WData.list (ns.map WData.int)] ∧ h.get? a = some { cls := .type "list", data := .seq vs.toArray } ∧ IntsAre vs ns ∧ ns.length ≤ n := by
  have hsh : WShape.hasAll [] args [.list .int] = true := (pre_splitW hpre).1
  have hc : l.pre.holds [] { args := args } = true := (pre_splitW hpre).2
  obtain ⟨d, r, rfl, h1, h2⟩ := hasAllW_cons hsh
  obtain rfl := hasAllW_nil h2
  obtain ⟨xs, rfl, h3⟩ := hasW_list h1
  obtain ⟨ns, rfl⟩ := items_int h3
  have hlen : ns.length ≤ n := by
    unfold OpenLaw.pre at hc
    have h4 : (WTm.not (.lt (.lit (.int (n : Int))) (.len (.arg 0)))).holds [] { args := [.list (ns.map .int)] } = true := by
      have h4 := (holds_andW hc).1
      rw [hn] at h4
      exact h4
    have h5 := condW_of h4 (w_not (w_lt w_lit (w_len_list (w_arg rfl))))
    rw [List.length_map] at h5
    refine Nat.le_of_not_lt fun q => ?_
    have q' : (n : Int) < ((ns.length : Nat) : Int) := by omega
    first
      | (rw [decide_eq_true q'] at h5; exact absurd h5 (by decide))
      | (simp at h5; omega)
  cases hwl with
  | cons w1 w2 =>
    cases w2
    cases w1 with
    | list ho hall => exact ⟨_, _, ns, rfl, rfl, ho, ints_of_wellAll ns _ hall, hlen⟩

theorem post_true (l : OpenLaw) (args : List WData) : l.row.toRowW.claim.post args (.bool true) args = true :=
  postW_of (r := l.row.toRowW) (X := (true == true))
    (show WShape.has [] (.bool true) .bool = true by first | rfl | decide | simp [WShape.has, WShape.arms, WShape.armsAll])
    (show (WTm.eq .res (.lit (.bool true))).value [] { args := args, res := some (.bool true), after := args } = some (.bool (true == true)) from w_eq_bool (w_res rfl) w_lit) rfl

theorem attach_call {l : OpenLaw} {n : Nat} {q : Program} {loose : List Str} {XP : (Str → Option Value) → Heap → Prop} {YP : World → Heap → Prop} {d : DefRec}
    (hn : l.most = some n) (hdf : d.params.defaults = [])
    (call : ∀ (w : World) (s₀ s₁ : Shared) (mg mb : Str → Option Value) (fa : Addr) (o : Obj) (pm cd doc : Value) (a : Addr) (vs : List Value) (ns : List Int),
      Ground q loose [] XP w s₀ mg mb s₁.heap → YP w s₁.heap →
      s₁.heap.get? fa = some o → o.data = .func (docDef d.name d.params d.body d.scope pm cd doc) → s₁.heap.CodeRec cd d.name → mg d.name = some (.ref fa) →
      s₁.heap.get? a = some { cls := .type "list", data := .seq vs.toArray } → IntsAre vs ns → ns.length ≤ n → s₁.gens = #[] →
      codeAny (model l.prog w) callerA (.call (.ref fa) ⟨[.ref a], []⟩) (fun r s' => r = .ok (.ret (.bool true)) ∧ OldK s₁.heap s'.heap ∧ s'.os = s₁.os ∧ AllBare s'.gens) s₁) :
    WalkO q loose XP YP l.row.toRowW d [] (fun f vs => PySem.call f vs) := by
  intro w s₀ s₁ mg mb G Y fa o pm cd doc dV kV ho hd hcd hD hmg hg args vals as hpre hlay hrd hwl hlo
  obtain rfl : dV = .none := Dflts.none hD hdf
  obtain rfl : kV = .none := Dflts.noKw hD
  obtain ⟨a, vs, ns, rfl, rfl, hobj, hints, hlen⟩ := script_of hn hpre hwl
  refine enter_call (codeAny_mono (call w s₀ s₁ mg mb fa o pm cd doc a vs ns G Y ho (fd_plain hd) hcd hmg hobj hints hlen hg) fun r s' hq => ?_)
  obtain ⟨rfl, h2, h3, h4⟩ := hq
  exact ⟨.inl ⟨.bool true, .bool true, [], rfl, fun _ => rfl, .bool true, post_true l _, fun _ => ⟨List.Pairwise.nil, fun _ hm => (nomatch hm)⟩⟩, h2, h3, h4⟩

section
variable {prog : Program} {w : World} {A : Around} {E : Value → Shared → Prop} {s : Shared} {K : Frag}

noncomputable def ledger (h : Heap) (L d : Addr) : List (Addr × Obj) := (List.range h.objs.size).filterMap fun a => if a = L ∨ a = d then none else (h.get? a).map fun o => (a, o)
end
end Att

namespace L2
open PySem PySem.Spec PyProof.Rows

theorem vals_ints : ∀ {vs : List Value} {ns : List Int}, IntsAre vs ns → Vals (ns.map V.int) vs
  | _, _, .nil => .nil
  | _, _, .cons n t h => .cons ⟨t, rfl⟩ (vals_ints h)

noncomputable def Only (H : Hp) : Prop := ∀ b, H b = none ∨ ∃ o xs, H b = some (.frz o (.lst xs))

theorem law_call {P : Program} {w : World} {K : PySem.W.Frag} {mg mb : Str → Option Value} {CX : CXT} {k : Nat} {fa a : Addr} {fd : FuncData} {x : Str} {sp : Sp} {s₁ : Shared} {vs : List Value} {ns : List Int}
    (KX : K.In s₁.heap) (hns : s₁.heap.Ns mainGlobals mg) (hb : s₁.heap.Ns builtinsNs mb) (hbb : ∀ x : Str, x ≠ "__name__" → mb x = bootBuiltins x) (hlim : s₁.heap.NoLimit) (hg : s₁.gens = #[])
    (ha : s₁.heap.get? a = some { cls := .type "list", data := .seq vs.toArray }) (hi : IntsAre vs ns) (hl : ns.length ≤ sizeLine) (hr : Room k callerA)
    (F : ∀ base : Heap, K.In base → base.Ns mainGlobals mg → FnOk P w K mg base CX k fa fd [x] sp) (hbind : ∀ (s : Shared) (u : Value), BindsTo s fd ⟨[u], []⟩ [(x, u)])
    (hsp : ∀ H : Hp, Only H → SqL K H a (ns.map V.int) → sp [.ref a] H (fun v _ => v = .bl true) fun _ _ _ => False)
    (hCX : ∀ H e s', CX [] H s₁ (fun _ _ _ => False) e s' → False) :
    codeAny (model P w) callerA (.call (.ref fa) ⟨[.ref a], []⟩) (fun r s' => r = .ok (.ret (.bool true)) ∧ OldK s₁.heap s'.heap ∧ s'.os = s₁.os ∧ AllBare s'.gens) s₁ := by
  have rv := vals_ints hi
  have lenV := hi.length
  -- from an abstract heap in which nothing but the script may be tracked
  have core : ∀ H : Hp, Only H → SqL K H a (ns.map V.int) → HOk P w H s₁.heap → (∀ b, H b ≠ none → b = a) → (H a ≠ none → K.lookup a = none) →
      codeAny (model P w) callerA (.call (.ref fa) ⟨[.ref a], []⟩) (fun r s' => r = .ok (.ret (.bool true)) ∧ OldK s₁.heap s'.heap ∧ s'.os = s₁.os ∧ AllBare s'.gens) s₁ := by
    intro H hO hS hok hA hK
    have base_of : ∀ {b : Addr} {o : Obj}, s₁.heap.get? b = some o → H b = none → (hidT s₁.heap H).get? b = some o := fun e n => hidT_get e n
    have noA : ∀ {b : Addr} {o : Obj} {es : Array DictEntry} {ep : Nat}, s₁.heap.get? b = some o → o.data = .dict es ep → H b = none := fun {b o es ep} e d => by
      cases q : H b with
      | none => rfl
      | some u =>
        have e' : b = a := hA b (by rw [q]; simp)
        subst e'
        rw [ha] at e; cases e
        have d' : Data.seq vs.toArray _ = Data.dict es ep := d
        cases d'
    have nsK : ∀ {b : Addr} {m : Str → Option Value}, s₁.heap.Ns b m → (hidT s₁.heap H).Ns b m := fun {b m} ⟨o, es, ep, e, d, r⟩ => ⟨o, es, ep, base_of e (noA e d), d, r⟩
    have hKb : K.In (hidT s₁.heap H) := fun b o e => base_of (KX b o e) (by
      cases q : H b with
      | none => rfl
      | some u =>
        have e' : b = a := hA b (by rw [q]; simp)
        subst e'
        rw [hK (by rw [q]; simp)] at e; cases e)
    have hM : Mod K mg (hidT s₁.heap H) := ⟨hKb, nsK hns, ⟨mb, nsK hb, hbb⟩, let ⟨mc, h1, h2⟩ := hlim; ⟨mc, nsK h1, h2⟩⟩
    have e0 : Env0 P w K mg (hidT s₁.heap H) callerA [] s₁ H := ⟨rfl, hM, fun b o e => of_hidT e, Nat.le_of_eq (hidT_size _ _), trivial, fun b hb => absurd (show b ∈ ([] : List Addr) from hb) (by simp), hok, .of_eq hg⟩
    refine codeAny_mono ((F _ hKb (nsK hns)).run callerA [] s₁ H ⟨[.ref a], []⟩ [.ref a] [.ref a] _ _ hr e0 (hbind s₁ (.ref a)) (.cons rfl .nil) (hsp H hO hS)) fun r s' h => ?_
    cases r with
    | error e => exact (hCX H e s' h).elim
    | ok fl =>
      cases fl with
      | next => exact False.elim h
      | brk => exact False.elim h
      | cont => exact False.elim h
      | ret u =>
        obtain ⟨v, H', os, bare, un, hok', r', q⟩ := h
        have q' : v = .bl true := q
        subst q'
        obtain rfl : u = Value.bool true := r'
        refine ⟨rfl, OldK.of_keep fun b o e => ?_, os, bare⟩
        cases q : H b with
        | none => exact un.keep b o e q (by intro z; exact absurd (show b ∈ ([] : List Addr) from z) (by simp)) (by simp)
        | some u =>
          rcases hO b with z | ⟨ob, xs, z⟩
          · rw [q] at z; cases z
          · have z2 := un.frzs b ob _ z
            obtain ⟨e1, _⟩ := hok b _ z
            obtain ⟨e2, _⟩ := hok' b _ z2
            rw [e] at e1; cases e1
            exact e2
  cases hk : K.lookup a with
  | some o =>
    -- the script is one of the module's own objects
    have e := KX a o hk
    rw [ha] at e
    cases e
    refine core (fun _ => none) (fun _ => .inl rfl) (.inr ⟨_, vs.toArray, _, hk, rfl, rfl, rfl, by rw [List.size_toArray, lenV]; exact hl, by simpa using rv⟩) (fun b u z => by have z' : (none : Option HO) = some u := z; cases z') (fun b z => absurd rfl z) fun z => absurd rfl z
  | none =>
    refine core (fun b => if b = a then some (.frz { cls := .type "list", data := .seq vs.toArray } (.lst (ns.map V.int))) else none) (fun b => ?_) (.inl (.inr ⟨{ cls := .type "list", data := .seq vs.toArray }, if_pos rfl⟩)) (fun b u z => ?_) (fun b z => ?_) fun _ => hk
    · by_cases hb : b = a
      · exact .inr ⟨_, _, if_pos hb⟩
      · exact .inl (if_neg hb)
    · by_cases hb : b = a
      · have z' := (if_pos hb).symm.trans z
        cases z'
        subst hb
        exact ⟨ha, by rw [List.length_map]; exact hl, vs, _, rv, ha⟩
      · have z' := (if_neg hb).symm.trans z
        cases z'
    · by_cases hb : b = a
      · exact hb
      · exact absurd (if_neg hb) z
end L2

namespace L2
open PySem PySem.Spec PyProof.Rows

theorem walk_of {l : PySem.W.OpenLaw} {n k : Nat} {q : Program} {loose : List Str} {XP : (Str → Option Value) → Heap → Prop} {YP : World → Heap → Prop} {d : DefRec} {K : Params → PySem.W.Frag} {CX : World → CXT} {sp : World → Sp} {x : Str}
    (hn : l.most = some n) (hn2 : n ≤ sizeLine) (hdf : d.params.defaults = []) (hr : Room k callerA)
    (hY : ∀ (w : World) (h : Heap), YP w h → (K w.params).In h)
    (F : ∀ (w : World) (mg : Str → Option Value) (fa : Addr) (h : Heap), (K w.params).In h → h.Ns mainGlobals mg → mg d.name = some (.ref fa) →
      ∃ fd : FuncData, (∀ (s : Shared) (u : Value), BindsTo s fd ⟨[u], []⟩ [(x, u)]) ∧
        ∀ base : Heap, (K w.params).In base → base.Ns mainGlobals mg → FnOk l.prog w (K w.params) mg base (CX w) k fa fd [x] (sp w))
    (hsp : ∀ (w : World) (H : Hp) (a : Addr) (ns : List Int), ns.length ≤ n → Only H → SqL (K w.params) H a (ns.map V.int) → sp w [.ref a] H (fun v _ => v = .bl true) fun _ _ _ => False)
    (hCX : ∀ (w : World) (H : Hp) (s : Shared) (e : Value) (s' : Shared), CX w [] H s (fun _ _ _ => False) e s' → False) :
    PySem.W.WalkO q loose XP YP l.row.toRowW d [] (fun f vs => PySem.call f vs) := by
  refine Att.attach_call hn hdf fun w s₀ s₁ mg mb fa o pm cd doc a vs ns G Y ho hd hcd hmg hobj hints hlen hg => ?_
  have KX := hY w _ Y
  obtain ⟨fd, hb, hF⟩ := F w mg fa _ KX G.T.g hmg
  exact law_call KX G.T.g G.T.b G.T.builtins G.T.nolimit hg hobj hints (Nat.le_trans hlen hn2) hr hF hb (fun H hO hS => hsp w H a ns hlen hO hS) fun H e s' => hCX w H s₁ e s'
end L2

namespace L2
open PySem PySem.Spec PyProof.Rows

noncomputable def defArgs (s : Stmt) : Arguments := match s with
  | .FunctionDef _ a _ _ _ _ _ _ _ _ => a
  | _ => { posonlyargs := [], args := [], vararg := none, kwonlyargs := [], kw_defaults := [], kwarg := none, defaults := [] }
noncomputable def defBody (s : Stmt) : List Stmt := match s with
  | .FunctionDef _ _ b _ _ _ _ _ _ _ => b
  | _ => []
noncomputable def defScope (s : Stmt) : Scope := match s with
  | .FunctionDef _ _ _ _ _ _ sc _ _ _ => sc
  | _ => { kind := .function, names := [], isGenerator := false, isCoroutine := false }

noncomputable abbrev CX0 : CXT := fun _ _ _ _ _ _ => False
noncomputable abbrev E0 : XK := fun _ _ _ => False
theorem pass0 {X : Cx} : Passes CX0 X E0 := fun _ _ _ _ _ _ _ h => h.elim

structure Fun (K : PySem.W.Frag) (x qual : Str) (st : Stmt) (f : Addr) (fd : FuncData) : Prop where
  ex : ∃ (oc : Value) (od : Option Addr) (kV doc pm : Value) (an : Option Addr) (cdv ct : Value) (osl : Array (Option Value)),
    fd = PySem.W.fnOf x qual (defArgs st) (defBody st) (defScope st) .none kV doc pm an cdv ct ∧ K.lookup f = some ⟨oc, od, .func fd, osl⟩ ∧ PySem.W.codeIn K cdv qual = true
  kp : PySem.W.keepIn K (.ref f) = true
section
variable {P : Program} {w : World} {K : PySem.W.Frag} {mg : Str → Option Value} {base : Heap}
theorem Fun.ok {x qual : Str} {st : Stmt} {f : Addr} {fd : FuncData} {N ps : List Str} {k : Nat} {sp : Sp} (F : Fun K x qual st f fd) (S : FnScope N ps (defScope st)) (len : ∀ vs H Q E, sp vs H Q E → vs.length = ps.length)
    (hbody : ∀ (cdv : Value) (A : Around) (outer : List Env) (s : Shared) (H : Hp) (vs : List V) (Q : VK) (E : XK), Room k (A.deeper (envOfC qual (defScope st) s.heap.objs.size f cdv)) → sp vs H Q E →
      ∃ t, PSs (cxOf CX0 P w K mg base N qual (defScope st) f cdv A outer s H E).nox (defBody st) t ∧ t { nx := fun _ H' => Q .non H', rt := Q } (start N vs) H) : FnOk P w K mg base CX0 (k + 1) f fd ps sp := by
  obtain ⟨oc, od, kV, doc, pm, an, cdv, ct, osl, rfl, lk, hcd⟩ := F.ex
  refine fn_of lk hcd S len fun A outer s H vs Q E hr hsp => ?_
  obtain ⟨t, h, q⟩ := hbody cdv A outer s H vs Q E hr hsp
  exact ⟨t, h.nox, q⟩
theorem Fun.binds {x qual : Str} {st : Stmt} {f : Addr} {fd : FuncData} {ps : List Str} (F : Fun K x qual st f fd)
    (h : ∀ (kV doc pm : Value) (an : Option Addr) (cdv ct : Value) (us : List Value), us.length = ps.length → bindArgs (PySem.W.fnOf x qual (defArgs st) (defBody st) (defScope st) .none kV doc pm an cdv ct) ⟨us, []⟩ = pure (ps.zip us)) : Binds K fd ps [] := by
  obtain ⟨oc, od, kV, doc, pm, an, cdv, ct, osl, rfl, lk, hcd⟩ := F.ex
  exact .all (h kV doc pm an cdv ct)
theorem fun_mk {x qual : Str} {st : Stmt} {f : Addr} {oc : Value} {od an : Option Addr} {osl : Array (Option Value)} {kV doc pm cdv ct : Value} (l : K.lookup f = some ⟨oc, od, .func (PySem.W.fnOf x qual (defArgs st) (defBody st) (defScope st) .none kV doc pm an cdv ct), osl⟩)
    (c : PySem.W.codeIn K cdv qual = true) (k : PySem.W.keepIn K (.ref f) = true) : Fun K x qual st f (PySem.W.fnOf x qual (defArgs st) (defBody st) (defScope st) .none kV doc pm an cdv ct) := ⟨⟨oc, od, kV, doc, pm, an, cdv, ct, osl, rfl, l, c⟩, k⟩
end
theorem small1000 {n : Nat} (h : n ≤ 1000) : n < sizeLine := Nat.lt_of_le_of_lt h (by decide)

section
variable {X : Cx}
theorem pv (i : Nat) {x : Str} {pos : Pos} (hN : X.N[i]? = some x := by rfl) (hv : Vis X.env.scope x := by first | exact Or.inl rfl | exact Or.inr (Or.inl rfl) | exact Or.inr (Or.inr rfl)) (hd : (x == ("__debug__" : Str)) = false := by decide)
    (hcd : (x == ("__classdict__" : Str)) = false := by decide) : PE X (.Name x pos) (tVar i) := pe_var hN hv hd hcd
end

theorem iteF {A B : Prop} (h : B) : if false = true then A else B := by
  rw [if_neg Bool.false_ne_true]
  exact h
theorem iteT {A B : Prop} (h : A) : if true = true then A else B := by
  rw [if_pos rfl]
  exact h
theorem iteNS {c A B : Prop} [Decidable c] (hc : c) (h : B) : if (!decide c) = true then A else B := by
  rw [decide_eq_true hc]
  exact iteF h

noncomputable def Same (H H' : Hp) : Prop := ∀ b o, H b = some o → H' b = some o
theorem Same.refl (H : Hp) : Same H H := fun _ _ h => h
theorem Same.trans {H H1 H2 : Hp} (a : Same H H1) (b : Same H1 H2) : Same H H2 := fun c o h => b c o (a c o h)
theorem Same.free {H H' : Hp} (e : Same H H') {l : Addr} (h : H' l = Option.none) : H l = Option.none := by
  cases q : H l with
  | none => rfl
  | some o =>
    rw [e l o q] at h
    cases h
theorem Same.seq {K : PySem.W.Frag} {H H' : Hp} {a : Addr} {xs : List V} (e : Same H H') (h : SqL K H a xs) : SqL K H' a xs := by
  rcases h with (h | ⟨o, h⟩) | h
  · exact .inl (.inl (e _ _ h))
  · exact .inl (.inr ⟨o, e _ _ h⟩)
  · exact .inr h

end L2

namespace L2
open PySem PySem.Spec PyProof.Rows
section
variable {X : Cx}
end
section
variable {κ : Type} [DecidableEq κ]
end
end L2

set_option genSizeOf false
set_option genInjectivity false
namespace L2
open PySem PySem.Spec PyProof.Rows

section
variable {prog : Program} {w : World} {A : Around} {R : Result → Shared → Prop} {s : Shared}
theorem comp_loop {elt target iter : Expr} {ifs : List Expr} {scope : Scope} {pos : Pos} {it acc : Value} {env : Env} (I : Nat → Shared → Prop)
    (turn : ∀ n s, I n s → wpAny (model prog w) A (pyNext it) (fun r s₁ => match r with
      | none => R (.ok .next) s₁
      | some v => wpAny (model prog w) A (letOwnedTupleGo target it v) (fun _ s₁' => wpAny (model prog w) A (assign target env v) (fun _ s₂ =>
          wpAny (model prog w) A (forIn ifs true fun c r => if r = true then do let ok ← isTrue c env (eval c env); pure (ForInStep.yield ok) else pure (ForInStep.yield r)) (fun ok s₃ =>
            if ok = true then wpAny (model prog w) A (eval elt env) (fun x s₄ =>
              wpAny (model prog w) A (call (.builtin "list.append") [acc, x]) (fun _ s₅ => ∃ m, m < n ∧ I m s₅) (fun _ _ => False) s₄) (fun _ _ => False) s₃
            else ∃ m, m < n ∧ I m s₃) (fun _ _ => False) s₂) (fun _ _ => False) s₁') (fun _ _ => False) s₁) (fun _ _ => False) s)
    (n : Nat) (h : I n s) :
    codeAny (model prog w) A (.compLoop (.ListComp elt [⟨target, iter, ifs, 0⟩] scope pos) 0 it acc env) R s := by
  refine codeAny_loop rfl I (fun n s hI => ?_) n h
  show wpAny _ A ((compTurn (.ListComp elt [⟨target, iter, ifs, 0⟩] scope pos) 0 it acc env).onRaise (fun x => do noteFrame x env; theTreesLotGoes x)) _ _ s
  refine wpAny_noted ?_
  rw [compTurn_list]
  refine wpAny_bind (wpAny_standAt (wpAny_bind (wpAny_mono (turn n s hI) (fun r s₁ h₁ => ?_) fun _ _ h' => False.elim h')))
  cases r with
  | none => exact wpAny_pure h₁
  | some v =>
    refine wpAny_bind (wpAny_mono h₁ (fun _ s₁' h₁' => ?_) fun _ _ h' => False.elim h')
    refine wpAny_bind (wpAny_mono h₁' (fun _ s₂ h₂ => wpAny_bind (wpAny_mono h₂ (fun ok s₃ h₃ => ?_) fun _ _ h' => False.elim h')) fun _ _ h' => False.elim h')
    cases ok with
    | false => exact wpAny_pure ⟨rfl, h₃⟩
    | true =>
      exact wpAny_bind (wpAny_bind (wpAny_mono h₃ (fun x s₄ h₄ => wpAny_bind (wpAny_mono h₄ (fun _ s₅ h₅ => wpAny_pure (wpAny_pure ⟨rfl, h₅⟩)) fun _ _ h' => False.elim h')) fun _ _ h' => False.elim h'))
end

noncomputable def compCl (cells : List (Str × Addr)) : List (Str × NameKind) → List (Str × Addr) → List (Str × Addr)
  | [], acc => acc
  | (x, k) :: r, acc => compCl cells r (if (k == NameKind.free) = true then (match cells.lookup x with | some c => (x, c) :: acc | none => acc) else acc)
theorem closureFor_cl {scope : Scope} {env : Env} (h : ∀ y ∈ scope.names, y.2 = .free → ∃ c, env.cells.lookup y.1 = some c) : closureFor scope env = pure (compCl env.cells scope.names []) := by
  have key : ∀ (names : List (Str × NameKind)) (acc : List (Str × Addr)), (∀ y ∈ names, y.2 = .free → ∃ c, env.cells.lookup y.1 = some c) →
      (forIn names acc fun (x : Str × NameKind) (r : List (Str × Addr)) => if (x.2 == NameKind.free) = true then (do let c ← cellOf env x.1; pure (ForInStep.yield ((x.1, c) :: r))) else pure (ForInStep.yield r) : Sem (List (Str × Addr))) = pure (compCl env.cells names acc) := by
    intro names
    induction names with
    | nil => intro acc _; rfl
    | cons y r ih =>
      intro acc hy
      obtain ⟨x, k⟩ := y
      rw [List.forIn_cons]
      dsimp only
      have hr := fun z hz => hy z (List.mem_cons_of_mem _ hz)
      by_cases hk : (k == NameKind.free) = true
      · obtain ⟨c, hc⟩ := hy (x, k) List.mem_cons_self (by simpa using hk)
        have hc : env.cells.lookup x = some c := hc
        have e1 : cellOf env x = pure c := by unfold cellOf; rw [hc]
        rw [if_pos hk, e1]
        simp only [pure_bind]
        rw [ih _ hr, compCl, if_pos hk, hc]
      · rw [if_neg hk]
        simp only [pure_bind]
        rw [ih _ hr, compCl, if_neg hk]
  have e := key scope.names [] h
  simp only [closureFor]
  rw [show (forIn scope.names [] fun (x : Str × NameKind) (r : List (Str × Addr)) => _ : Sem (List (Str × Addr))) = _ from e]
  rfl
theorem compCl_lookup {cells : List (Str × Addr)} {x : Str} {c : Addr} : ∀ {names : List (Str × NameKind)} {acc : List (Str × Addr)}, (compCl cells names acc).lookup x = some c → (acc.lookup x = some c) ∨ cells.lookup x = some c
  | [], acc, h => .inl h
  | (y, k) :: r, acc, h => by
    rw [compCl] at h
    rcases compCl_lookup h with h | h
    · split at h
      · cases e : cells.lookup y with
        | none => rw [e] at h; exact .inl h
        | some c' =>
          rw [e] at h
          simp only [List.lookup_cons] at h
          by_cases hxy : x = y
          · subst hxy
            simp at h
            subst h
            exact .inr e
          · have hf : (x == y) = false := by simpa using hxy
            rw [hf] at h
            exact .inl h
      · exact .inl h
    · exact .inr h
theorem compCl_keeps {cells : List (Str × Addr)} {x : Str} {c : Addr} (hc : cells.lookup x = some c) : ∀ {names : List (Str × NameKind)} {acc : List (Str × Addr)}, acc.lookup x = some c → (compCl cells names acc).lookup x = some c
  | [], acc, h => h
  | (y, k) :: r, acc, h => by
    rw [compCl]
    refine compCl_keeps hc ?_
    split
    · cases e : cells.lookup y with
      | none => exact h
      | some c' =>
        show List.lookup x ((y, c') :: acc) = some c
        simp only [List.lookup_cons]
        cases hx : x == y with
        | true =>
          have : x = y := by simpa using hx
          subst this
          rw [hc] at e; cases e; rfl
        | false => exact h
    · exact h
theorem compCl_has {cells : List (Str × Addr)} {x : Str} {c : Addr} (hc : cells.lookup x = some c) : ∀ {names : List (Str × NameKind)} {acc : List (Str × Addr)}, (x, NameKind.free) ∈ names → (compCl cells names acc).lookup x = some c
  | [], _, h => by simp at h
  | (y, k) :: r, acc, h => by
    rw [compCl]
    rcases List.mem_cons.mp h with e | h
    · cases e
      refine compCl_keeps hc ?_
      rw [if_pos (by decide), hc]
      simp [List.lookup_cons]
    · exact compCl_has hc h

theorem relabel_lookup {scope : Scope} {env : Env} {x : Str} {k : NameKind} (h : (relabel scope env).names.lookup x = some k) :
    (scope.names.lookup x = some k ∧ k ≠ .free) ∨ (scope.names.lookup x = some .free ∧ (k = .free ∨ (k = .cell ∧ env.kindOf x = some .cell))) := by
  have key : ∀ (names : List (Str × NameKind)), (names.map fun (n, k) => if (k == NameKind.free && env.scope.kind == .function && env.kindOf n == some .cell) then (n, NameKind.cell) else (n, k)).lookup x = some k →
      (names.lookup x = some k ∧ k ≠ .free) ∨ (names.lookup x = some .free ∧ (k = .free ∨ (k = .cell ∧ env.kindOf x = some .cell))) := by
    intro names
    induction names with
    | nil => intro h; simp at h
    | cons y r ih =>
      intro h
      obtain ⟨n, k'⟩ := y
      simp only [List.map_cons] at h
      by_cases hc : (k' == NameKind.free && env.scope.kind == .function && env.kindOf n == some .cell) = true
      · rw [if_pos hc] at h
        simp only [List.lookup_cons] at h ⊢
        cases hx : x == n with
        | true =>
          rw [hx] at h
          cases h
          have e : x = n := by simpa using hx
          subst e
          simp only [Bool.and_eq_true, beq_iff_eq] at hc
          exact .inr ⟨by rw [hc.1.1], .inr ⟨rfl, hc.2⟩⟩
        | false => rw [hx] at h; exact ih h
      · rw [if_neg hc] at h
        simp only [List.lookup_cons] at h ⊢
        cases hx : x == n with
        | true =>
          rw [hx] at h
          cases h
          by_cases hf : k = .free
          · subst hf; exact .inr ⟨rfl, .inl rfl⟩
          · exact .inl ⟨rfl, hf⟩
        | false => rw [hx] at h; exact ih h
  exact key scope.names h
theorem relabel_cell {scope : Scope} {env : Env} {x : Str} (hk : env.scope.kind = .function) (h : scope.names.lookup x = some .free) (he : env.kindOf x = some .cell) : (relabel scope env).names.lookup x = some .cell := by
  have key : ∀ (names : List (Str × NameKind)), names.lookup x = some .free →
      (names.map fun (n, k) => if (k == NameKind.free && env.scope.kind == .function && env.kindOf n == some .cell) then (n, NameKind.cell) else (n, k)).lookup x = some .cell := by
    intro names
    induction names with
    | nil => intro h; simp at h
    | cons y r ih =>
      intro h
      obtain ⟨n, k'⟩ := y
      simp only [List.map_cons]
      simp only [List.lookup_cons] at h
      cases hx : x == n with
      | true =>
        rw [hx] at h
        cases h
        have e : x = n := by simpa using hx
        subst e
        rw [if_pos (by simp [hk, he])]
        simp [List.lookup_cons]
      | false =>
        rw [hx] at h
        by_cases hc : (k' == NameKind.free && env.scope.kind == .function && env.kindOf n == some .cell) = true
        · rw [if_pos hc]; simp only [List.lookup_cons, hx]; exact ih h
        · rw [if_neg hc]; simp only [List.lookup_cons, hx]; exact ih h
  exact key scope.names h

noncomputable def cxC (X : Cx) (Nc : List Str) (scope : Scope) (C : Addr) (s0 : Shared) (H0 : Hp) (fp : List Addr) : Cx :=
  { X with N := Nc, s₀ := s0, H₀ := H0, env := compEnvC scope (compCl X.env.cells scope.names []) C X.env, outer := X.stack, stack := X.stack, ex := fp, fn := fun _ => false, pn := [], xe := fun _ _ => False }
noncomputable def capσ (cap : List (Nat × Str)) (σ : St) : St := cap.map fun p => (σ[p.1]?).getD none
noncomputable def blk (cap : List (Nat × Str)) (own : Nat) (σ : St) : St := capσ cap σ ++ List.replicate own none
noncomputable def PF (X : Cx) (ifs : List Expr) (t : TT) : Prop :=
  ∀ (pins : List (Addr × Obj)) (s : Shared) (σ : St) (H : Hp) (Q : Bool → Hp → Prop), Inv X pins σ H s → t σ H Q →
    wpAny (model X.prog X.w) X.A (forIn ifs true fun c r => if r = true then do let ok ← isTrue c X.env (eval c X.env); pure (ForInStep.yield ok) else pure (ForInStep.yield r)) (TP X pins σ Q) X.xe s
noncomputable def tTrue : TT := fun _ H Q => Q true H
theorem pf_nil {X : Cx} : PF X [] tTrue := fun _ _ _ H _ I h => wpAny_tests_nil ⟨H, I, h⟩
noncomputable def tComp (cap : List (Nat × Str)) (own : Nat) (wi : TI) (g : TG) (tc : TT) (te : TE) : TE := fun σ H Q => wi σ H fun J H1 => ∀ D, H1 D = none →
  ∃ W : Nat → Nat → List V → Hp → Prop, (∃ m, W 0 m [] (upd H1 D (.lst []))) ∧ ∀ i m ys H, W i m ys H → H D = some (.lst ys) ∧
    ((J.stop i H ∧ Q (.ref D) H) ∨ (J.go i H ∧ ∀ x H', J.yld i H x H' → g x (blk cap own σ) H' fun σ2 H2 =>
      (σ2.take cap.length = capσ cap σ ∧ σ2.length = cap.length + own) ∧ tc σ2 H2 fun b H3 =>
        if b = true then te σ2 H3 fun v H4 => H4 D = some (.lst ys) ∧ ys.length < sizeLine ∧ ∃ m', m' < m ∧ W (i + 1) m' (ys ++ [v]) (upd H4 D (.lst (ys ++ [v])))
        else ∃ m', m' < m ∧ W (i + 1) m' ys H3))

structure CompOk (X : Cx) (scope : Scope) (cap : List (Nat × Str)) (own : List Str) : Prop where
  kind : scope.kind = .function
  cell : ∀ y ∈ scope.names, y.2 ≠ .cell
  names : ∀ y ∈ scope.names, y.2 = .local → scope.names.lookup y.1 = some .local
  free : ∀ y ∈ scope.names, y.2 = .free → X.env.scope.names.lookup y.1 = some .cell ∧ scope.names.lookup y.1 = some .free
  hcap : ∀ p ∈ cap, X.N[p.1]? = some p.2
  hown : ∀ x ∈ own, scope.names.lookup x ≠ some .free
  hcapf : ∀ p ∈ cap, scope.names.lookup p.2 = some .free

structure TurnZ (Z : Cx → Prop) (P : Program) (w : World) (K : PySem.W.Frag) (tg : Expr) (J : It) (fp : List Addr) (it : Addr) (tn : Nat → Heap → Prop) : Prop where
  obj : ∀ i h, tn i h → ∀ b ∈ fp, ∃ o, h.get? b = some o ∧ ∀ v, o.data ≠ .cell v
  keep : ∀ i h h', tn i h → (∀ b ∈ fp, ∀ o, h.get? b = some o → h'.get? b = some o) → tn i h'
  item : ∀ (X : Cx), X.prog = P → X.w = w → X.K = K → Z X → ∀ (i : Nat) (pins : List (Addr × Obj)) (s : Shared) (σ : St) (H : Hp) (E : Value → Shared → Prop), Inv X pins σ H s → (∀ b ∈ fp, FpOk X pins H b) → tn i s.heap → J.go i H →
    wpAny (model P w) X.A (pyNext (.ref it)) (fun r s1 => ∃ u, r = some u ∧
      wpAny (model P w) X.A (letOwnedTupleGo tg (.ref it) u) (fun _ s2 => ∃ x H', Inv X pins σ H' s2 ∧ RelV x u ∧ J.yld i H x H' ∧ tn (i + 1) s2.heap ∧ ∀ b ∈ fp, H' b = none) E s1) E s
  done : ∀ (X : Cx), X.prog = P → X.w = w → X.K = K → Z X → ∀ (i : Nat) (pins : List (Addr × Obj)) (s : Shared) (σ : St) (H : Hp) (E : Value → Shared → Prop), Inv X pins σ H s → (∀ b ∈ fp, FpOk X pins H b) → tn i s.heap → J.stop i H →
    wpAny (model P w) X.A (pyNext (.ref it)) (fun r s1 => r = none ∧ Inv X pins σ H s1) E s
  self : ∀ (A : Around) (i : Nat) (s : Shared) (Q : Value → Shared → Prop) (E : Value → Shared → Prop), tn i s.heap → Q (.ref it) s → wpAny (model P w) A (pyIter (.ref it)) Q E s
theorem Turn.toZ {P : Program} {w : World} {K : PySem.W.Frag} {tg : Expr} {J : It} {fp : List Addr} {it : Addr} {tn : Nat → Heap → Prop} (T : Turn P w K tg J fp it tn) : TurnZ (fun Y => Y.calm = true) P w K tg J fp it tn :=
  ⟨T.obj, T.keep, T.item, T.done, T.self⟩
section
variable {X : Cx} {pins : List (Addr × Obj)} {σ : St} {H : Hp} {s : Shared}
theorem comp_core {Z : Cx → Prop} {elt target iter : Expr} {ifs : List Expr} {scope : Scope} {pos : Pos} {cap : List (Nat × Str)} {own : List Str} {g : TG} {tc : TT} {te : TE} {Qe : VK} {J : It} {fp : List Addr} {it : Addr} {tn : Nat → Heap → Prop} {E : Value → Shared → Prop}
    {RR : Value → Addr → Result → Shared → Prop} (hZ : ∀ (Nc : List Str) (C : Addr) (s0 : Shared) (H0 : Hp) (fp : List Addr), Z (cxC X Nc scope C s0 H0 fp)) (O : CompOk X scope cap own)
    (hb : ∀ (C : Addr) (s0 : Shared) (H0 : Hp) (fp : List Addr), PG (cxC X (cap.map (·.2) ++ own) scope C s0 H0 fp) target g ∧ PF (cxC X (cap.map (·.2) ++ own) scope C s0 H0 fp) ifs tc ∧ PE (cxC X (cap.map (·.2) ++ own) scope C s0 H0 fp) elt te)
    (I : Inv X pins σ H s) (T : TurnZ Z X.prog X.w X.K target J fp it tn) (st : tn 0 s.heap) (f : ∀ b ∈ fp, FpOk X pins H b)
    (hW : ∀ D, H D = none → ∃ W : Nat → Nat → List V → Hp → Prop, (∃ m, W 0 m [] (upd H D (.lst []))) ∧ ∀ i m ys H, W i m ys H → H D = some (.lst ys) ∧
      ((J.stop i H ∧ Qe (.ref D) H) ∨ (J.go i H ∧ ∀ x H', J.yld i H x H' → g x (blk cap own.length σ) H' fun σ2 H2 =>
        (σ2.take cap.length = capσ cap σ ∧ σ2.length = cap.length + own.length) ∧ tc σ2 H2 fun b H3 =>
          if b = true then te σ2 H3 fun v H4 => H4 D = some (.lst ys) ∧ ys.length < sizeLine ∧ ∃ m', m' < m ∧ W (i + 1) m' (ys ++ [v]) (upd H4 D (.lst (ys ++ [v])))
          else ∃ m', m' < m ∧ W (i + 1) m' ys H3)))
    (hRR : ∀ D C s4 m H', Inv X pins σ H' s4 → s4.heap.Ns C m → FpOk X pins H' C → Qe (.ref D) H' → RR (.ref D) C (.ok .next) s4) :
    wpAny (model X.prog X.w) X.A (newList []) (fun acc s₃ => wpAny (model X.prog X.w) X.A (newFunctionEnv scope X.env.globals (compCl X.env.cells scope.names []) [] X.env.qual none .none (some X.env)) (fun cenv s₄ =>
      codeAny (model X.prog X.w) X.A (.compStart (.ListComp elt [⟨target, iter, ifs, 0⟩] scope pos) 0 (.ref it) acc { cenv with scope := relabel scope X.env }) (RR acc cenv.locals) s₄) E s₃) E s := by
  have hD : H s.heap.objs.size = none := I.hok.fresh (Nat.le_refl _)
  obtain ⟨W, ⟨m0, w0⟩, turn⟩ := hW s.heap.objs.size hD
  refine wpAny_newObj_type (wpAny_newFunctionEnv O.cell (by intro y hy; simp at hy) (fun h₁ hns₁ hsb₁ => ?_) O.kind)
  dsimp only at hns₁ hsb₁ ⊢
  have I3 : Inv X pins σ (upd H s.heap.objs.size (.lst [])) { s with heap := s.heap.push { cls := .type "list", data := .seq ([] : List Value).toArray }, toks := s.toks } := I.lnew (its := []) .nil (Nat.zero_le _)
  generalize hH2 : s.heap.push { cls := .type "list", data := .seq ([] : List Value).toArray } = h2 at hns₁ hsb₁ I3 ⊢
  have hsz : h2.objs.size = s.heap.objs.size + 1 := by rw [← hH2, Heap.size_push]
  have hC : (upd H s.heap.objs.size (.lst [])) h2.objs.size = none := I3.hok.fresh (Nat.le_refl _)
  have old : ∀ b o, h2.get? b = some o → h₁.get? b = some o := fun b o e => hsb₁.extBut b o (Nat.ne_of_lt (Heap.lt_size e)) (Heap.get?_push_of_some _ e)
  -- the block's context
  let Y : Cx := cxC X (cap.map (·.2) ++ own) scope h2.objs.size { s with heap := h2, toks := s.toks } (upd H s.heap.objs.size (.lst [])) fp
  have fD : ∀ b ∈ fp, b < s.heap.objs.size := fun b hb' => by
    obtain ⟨o, e, _⟩ := T.obj _ _ st b hb'
    exact Heap.lt_size e
  have le2 : s.heap.objs.size ≤ h2.objs.size := by rw [hsz]; exact Nat.le_succ _
  have nC : ∀ b ∈ fp, b ≠ h2.objs.size := fun b hb' => Nat.ne_of_lt (Nat.lt_of_lt_of_le (fD b hb') le2)
  have f3 : ∀ b ∈ fp, FpOk X pins (upd H s.heap.objs.size (.lst [])) b := fun b hb' => by
    obtain ⟨z0, z⟩ := f b hb'
    exact ⟨by rw [upd_ne (Nat.ne_of_lt (fD b hb'))]; exact z0, z⟩
  have nstk : ∀ b ∈ fp, b ∉ frs X.stack := fun b hb' z => by
    obtain ⟨_, z1, z2, _⟩ := f b hb'
    rcases List.mem_cons.mp (I.stkSub b z) with q | q
    · exact z1 q
    · exact z2 q
  have hkf : X.env.scope.kind = .function := I.ok.kind
  have clk : ∀ x c, (compCl X.env.cells scope.names []).lookup x = some c → X.env.cells.lookup x = some c := fun x c e => by
    rcases compCl_lookup e with q | q
    · simp at q
    · exact q
  have clh : ∀ x, scope.names.lookup x = some .free → ∃ c, X.env.cells.lookup x = some c ∧ (compCl X.env.cells scope.names []).lookup x = some c := fun x e => by
    have hm := PySem.mem_of_lookup e
    obtain ⟨c, hc'⟩ := I.ok.has x (.inl (O.free _ hm rfl).1)
    exact ⟨c, hc', compCl_has hc' hm⟩
  have okY : Y.Ok := by
    refine ⟨I.ok.mod, O.kind, I.ok.glob, I.ok.blt, Nat.le_refl _, fun x y c h1 h2' => I.ok.inj x y c (clk x c h1) (clk y c h2'), fun x hx => ?_, fun x c hf => absurd hf Bool.false_ne_true, I.ok.hd, I.ok.frames, .inl rfl, fun b hb' => ?_, I3.bs, Nat.le_trans I.ok.bsz I3.sz, fun b o e hb' => ?_, nstk, I3.stack, I3.stkFree⟩
    · have hx : (relabel scope X.env).names.lookup x = some .cell ∨ (relabel scope X.env).names.lookup x = some .free := hx
      have : scope.names.lookup x = some .free := by
        rcases hx with hx | hx
        · rcases relabel_lookup hx with ⟨q, _⟩ | ⟨q, _⟩
          · exact absurd rfl (O.cell _ (PySem.mem_of_lookup q))
          · exact q
        · rcases relabel_lookup hx with ⟨_, q⟩ | ⟨q, _⟩
          · exact absurd rfl q
          · exact q
      obtain ⟨c, _, e⟩ := clh x this
      exact ⟨c, e⟩
    · exact ⟨fun z => nC b hb' z, fun x c e => (f b hb').2.2.2.2.1 x c (clk x c e)⟩
    · rcases (f b hb').2.2.2.1 with q | q
      · exact I.ok.noex b o e q
      · exact absurd (Nat.lt_of_lt_of_le (Heap.lt_size e) (Nat.le_trans I.ok.bsz q)) (Nat.lt_irrefl _)
  have lenσ : (blk cap own.length σ).length = cap.length + own.length := by unfold blk capσ; simp
  have IY : Inv Y [] (blk cap own.length σ) (upd H s.heap.objs.size (.lst [])) { s with heap := h₁, toks := s.toks + ([] : List (Str × Value)).length } := by
    refine ⟨okY, rfl, I3.bare, Un.kept old, ⟨_, hns₁, fun i x v e1 e2 e3 => ?_⟩, fun x c e => ?_, hC, fun x c e => I3.freeC x c (clk x c e), fun p hp => absurd (show p ∈ ([] : List (Addr × Obj)) from hp) (by simp), I3.hok.kept old, by rw [lenσ]; show _ = (cap.map (·.2) ++ own).length; simp⟩
    · have hi : i < cap.length := by
        by_cases hi : i < cap.length
        · exact hi
        · unfold blk at e2
          rw [List.getElem?_append_right (by unfold capσ; simpa using hi), List.getElem?_replicate] at e2
          split at e2 <;> cases e2
      have e1 : (cap.map (·.2) ++ own)[i]? = some x := e1
      rw [List.getElem?_append_left (by simpa using hi), List.getElem?_map] at e1
      unfold blk capσ at e2
      rw [List.getElem?_append_left (by simpa using hi), List.getElem?_map] at e2
      obtain ⟨p, hp⟩ : ∃ p, cap[i]? = some p := ⟨_, List.getElem?_eq_getElem hi⟩
      rw [hp] at e1 e2
      have e1 : p.2 = x := Option.some.inj e1
      have e2 : (σ[p.1]?).getD none = some v := Option.some.inj e2
      have hm := List.mem_of_getElem? hp
      have hN := O.hcap p hm
      have e2' : σ[p.1]? = some (some v) := by
        cases q : σ[p.1]? with
        | none => rw [q] at e2; cases e2
        | some z => rw [q] at e2; exact congrArg some e2
      have hfr := O.hcapf p hm
      have hcl := O.free _ (PySem.mem_of_lookup hfr) rfl
      subst e1
      obtain ⟨m3, hn3, hl3⟩ := I3.loc
      obtain ⟨u, r, l⟩ := hl3 p.1 p.2 v hN e2' (.inr (.inl hcl.1))
      refine ⟨u, r, .inr ⟨.inl (relabel_cell hkf hfr hcl.1), ?_⟩⟩
      rcases l with ⟨l, _⟩ | ⟨_, c, hc', z⟩
      · have l : X.env.scope.names.lookup p.2 = some .local := l
        rw [hcl.1] at l; cases l
      · obtain ⟨c', h1, h2'⟩ := clh p.2 hfr
        have h1 : X.env.cells.lookup p.2 = some c' := h1
        rw [hc'] at h1; cases h1
        obtain ⟨oc, ho, hd⟩ := z
        exact ⟨c, h2', oc, old _ _ ho, hd⟩
    · obtain ⟨v, oc, ho, hd⟩ := I3.cell x c (clk x c e)
      exact ⟨v, oc, old _ _ ho, hd⟩
  have st1 : tn 0 h₁ := T.keep _ _ _ st fun b _ o e => old b o (by rw [← hH2]; exact Heap.get?_push_of_some _ e)
  have stat : ∀ {H' : Hp}, (∀ b ∈ fp, H' b = none) → ∀ b ∈ fp, FpOk Y [] H' b := fun hn b hb' =>
    ⟨hn b hb', fun z => nC b hb' z, nstk b hb', .inl hb', fun x c e => (f b hb').2.2.2.2.1 x c (clk x c e), fun p hp => absurd (show p ∈ ([] : List (Addr × Obj)) from hp) (by simp)⟩
  have loop : codeAny (model X.prog X.w) X.A (.compLoop (.ListComp elt [⟨target, iter, ifs, 0⟩] scope pos) 0 (.ref it) (.ref s.heap.objs.size) Y.env)
      (RR (.ref s.heap.objs.size) h2.objs.size) { s with heap := h₁, toks := s.toks + ([] : List (Str × Value)).length } := by
    refine comp_loop (fun n s' => ∃ i ys H', Inv Y [] (blk cap own.length σ) H' s' ∧ tn i s'.heap ∧ (∀ b ∈ fp, H' b = none) ∧ W i n ys H') ?_ m0 ⟨0, [], _, IY, st1, fun b hb' => (f3 b hb').1, w0⟩
    rintro n s' ⟨i, ys, H', I', st', fr', w'⟩
    obtain ⟨hD', alt⟩ := turn i n ys H' w'
    rcases alt with ⟨stop, q⟩ | ⟨go, step⟩
    · refine wpAny_mono (T.done Y rfl rfl rfl (hZ _ _ _ _ _) i [] s' _ H' (fun _ _ => False) I' (stat fr') st' stop) (fun r s4 ⟨hr, I4⟩ => ?_) fun _ _ z => z
      subst hr
      obtain ⟨m, hn, _⟩ := I4.loc
      refine hRR s.heap.objs.size h2.objs.size s4 m H' ?_ hn ?_ q
      · refine I3.call' (s' := s4) (ch := fp) I4.os I4.base I4.hok I4.bare fun b hb' => ?_
        obtain ⟨_, z1, _, z3, z4, z5⟩ := f b hb'
        exact ⟨z3, z1, z4, z5⟩
      · exact I3.fpOk (Nat.le_refl _) I4.free
    · refine wpAny_mono (T.item Y rfl rfl rfl (hZ _ _ _ _ _) i [] s' _ H' (fun _ _ => False) I' (stat fr') st' go) (fun r s4 ⟨u, hr, h4⟩ => ?_) fun _ _ z => z
      subst hr
      refine wpAny_mono h4 (fun _ s5 ⟨x, H5, I5, r5, y5, st5, fr5⟩ => ?_) fun _ _ z => z
      have I5' := I5.pinned (stat fr5) (T.obj _ _ st5)
      obtain ⟨pg, pf, pe⟩ := hb h2.objs.size { s with heap := h2, toks := s.toks } (upd H s.heap.objs.size (.lst [])) fp
      refine wpAny_mono (pg _ s5 _ H5 x u _ I5' r5 (step x H5 y5)) (fun _ s6 ⟨σ6, H6, I6, ⟨tk6, ln6⟩, q6⟩ => ?_) fun _ _ z => z
      have back : ∀ {s9 : Shared} {H9 : Hp}, Inv Y ([] ++ pinsAt fp s5.heap) σ6 H9 s9 → ∀ {m' : Nat} {ys' : List V}, m' < n → W (i + 1) m' ys' H9 → ∃ m, m < n ∧ ∃ i ys H', Inv Y [] (blk cap own.length σ) H' s9 ∧ tn i s9.heap ∧ (∀ b ∈ fp, H' b = none) ∧ W i m ys H' := by
        intro s9 H9 I9 m' ys' hm w9
        refine ⟨m', hm, i + 1, ys', H9, I9.unpinned.weak ?_ (fun j v e => ?_), T.keep _ _ _ st5 fun b hb' o e => (I9.pin (b, o) (List.mem_append_right _ (List.mem_append_right _ (mem_pinsAt hb' e)))).1, fun b hb' => ?_, w9⟩
        · rw [lenσ, ln6]
        · have hj : j < cap.length := by
            by_cases hj : j < cap.length
            · exact hj
            · unfold blk at e
              rw [List.getElem?_append_right (by unfold capσ; simpa using hj), List.getElem?_replicate] at e
              split at e <;> cases e
          unfold blk at e
          rw [List.getElem?_append_left (by unfold capσ; simpa using hj), ← tk6, List.getElem?_take_of_lt hj] at e
          exact e
        · obtain ⟨o, e, d⟩ := T.obj _ _ st5 b hb'
          exact (I9.pin (b, o) (List.mem_append_right _ (List.mem_append_right _ (mem_pinsAt hb' e)))).2.1
      refine wpAny_mono (pf _ s6 σ6 H6 _ I6 q6) (fun ok s7 ⟨H7, I7, q7⟩ => ?_) fun _ _ z => z
      cases ok with
      | false =>
        rw [if_neg Bool.false_ne_true] at q7 ⊢
        obtain ⟨m', hm, w7⟩ := q7
        exact back I7 hm w7
      | true =>
        rw [if_pos rfl] at q7 ⊢
        refine wpAny_mono (pe _ s7 σ6 H7 _ I7 q7) (fun y s8 ⟨v, H8, I8, r8, hD8, hl8, m', hm, w8⟩ => ?_) fun _ _ z => z
        refine wpAny_mono (mt_append (X := Y) _ s8 σ6 H8 (.ref s.heap.objs.size) [v] (.ref s.heap.objs.size) [y] (fun _ H9 => H9 = upd H8 s.heap.objs.size (.lst (ys ++ [v]))) I8 rfl (.cons r8 .nil) ⟨_, ys, v, rfl, rfl, hD8, hl8, rfl⟩) (fun z s9 ⟨v9, H9, I9, r9, e9⟩ => ?_) fun _ _ z => z
        subst e9
        exact back I9 hm w8
  exact codeAny_compStart_list loop (T.self X.A 0 _ _ _ st1 loop)

theorem pe_comp {elt target iter : Expr} {ifs : List Expr} {scope : Scope} {pos : Pos} {cap : List (Nat × Str)} {own : List Str} {wi : TI} {g : TG} {tc : TT} {te : TE} (hc : X.calm = true) (O : CompOk X scope cap own) (hi : PI X target iter wi)
    (hb : ∀ (C : Addr) (s0 : Shared) (H0 : Hp) (fp : List Addr), PG (cxC X (cap.map (·.2) ++ own) scope C s0 H0 fp) target g ∧ PF (cxC X (cap.map (·.2) ++ own) scope C s0 H0 fp) ifs tc ∧ PE (cxC X (cap.map (·.2) ++ own) scope C s0 H0 fp) elt te)
    (hs : ∀ x, foldedSetIterable iter X.env x = pure x := by intro _; rfl) :
    PE X (.ListComp elt [⟨target, iter, ifs, 0⟩] scope pos) (tComp cap own.length wi g tc te) := by
  intro pins s σ H Q I h
  rw [eval_ListComp]
  have hclos : closureFor scope X.env = pure (compCl X.env.cells scope.names []) := closureFor_cl fun y hy hf => I.ok.has y.1 (.inl (O.free y hy hf).1)
  refine wpAny_comprehension_free (use := none) rfl hs hclos O.kind O.names (thn (hi pins s σ H _ I h) fun v s1 h1 => thn h1 fun itv s2 h2 => ?_)
  obtain ⟨it, fp, tn, J, H2, rfl, I2, T, st2, f2, hR⟩ := h2
  refine comp_core (RR := fun acc C => compPost (model X.prog X.w) X.A X.xe none (EP X pins σ Q) acc C) (Z := fun Y => Y.calm = true) (fun _ _ _ _ _ => hc) O hb I2 T.toZ st2 f2 hR ?_
  intro D C s4 m H' I4 hn fC q
  obtain ⟨z0, z1, z2, z3, z4, z5⟩ := fC
  refine ⟨m, hn, fun h' hs' => ⟨.ref D, H', I4.turned (t' := s4.toks) (fun b o hb' e => hs'.extBut b o hb' e) z0 z1 z3 z4 z5, rfl, q⟩⟩
end
end L2

set_option genSizeOf false
set_option genInjectivity false
namespace FxS
open PySem
noncomputable abbrev Rs (xs : Array Nat) : Prop := xs.toList.Pairwise (· < ·)
structure TabOk (led : Bool) (t : SetTable) : Prop where
  led : t.led = led
  dm : t.dummies = #[]
  rs : t.plain = true → Rs t.place
theorem TabOk.fresh (led : Bool) (f m : Nat) : TabOk led (SetTable.fresh f m led) := ⟨rfl, rfl, fun _ => List.Pairwise.nil⟩
end FxS

set_option genSizeOf false
set_option genInjectivity false
namespace FxS
open PySem
section
variable {prog : Program} {w : World}
variable {A : Around} {E : Value → Shared → Prop} {s : Shared}
end
end FxS

set_option genSizeOf false
set_option genInjectivity false
namespace FxS
open PySem
section
variable {prog : Program} {w : World} {A : Around} {E : Value → Shared → Prop} {s : Shared}
end
end FxS

set_option genSizeOf false
set_option genInjectivity false
namespace FxS
open PySem
section
variable {prog : Program} {w : World} {A : Around} {E : Value → Shared → Prop} {s : Shared} {o : Obj} {es : Array (Int × Value)} {ep : Nat} {t : SetTable} {a I : Addr} {i : Nat} {ord : List Value}
end
end FxS

set_option genSizeOf false
set_option genInjectivity false
namespace FxS
open PySem
section
variable {prog : Program} {w : World} {A : Around} {E : Value → Shared → Prop} {s : Shared} {o : Obj} {es : Array (Int × Value)} {ep : Nat} {t : SetTable} {a I : Addr}
end
end FxS

set_option genSizeOf false
set_option genInjectivity false
namespace FxS
open PySem PyProof.Rows
section
variable {prog : Program} {w : World} {A : Around} {R : Result → Shared → Prop} {I : Addr} {fp wr : List Addr} {G : Array GenState → Array GenState → Prop} {n : Nat} {P : Nat → Value → Prop} {St : Nat → Shared → Prop}
structure Met (val : Nat → Int) (i : Nat) (ms : List Int) : Prop where
  nd : ms.Nodup
  le : ms.length ≤ i
  mem : ∀ k, k ∈ ms ↔ ∃ j, j < i ∧ val j = k
theorem Met.next {val : Nat → Int} {i : Nat} {ms ms' : List Int} (m : Met val i ms) (h : ms'.Perm (if val i ∈ ms then ms else ms ++ [val i])) : Met val (i + 1) ms' := by
  by_cases c : val i ∈ ms
  · rw [if_pos c] at h
    refine ⟨h.nodup_iff.mpr m.nd, by rw [h.length_eq]; exact Nat.le_succ_of_le m.le, fun k => ?_⟩
    rw [h.mem_iff, m.mem k]
    constructor
    · rintro ⟨j, h1, h2⟩; exact ⟨j, by omega, h2⟩
    · rintro ⟨j, h1, h2⟩
      by_cases e : j = i
      · subst e; rw [← h2]; exact (m.mem _).mp c
      · exact ⟨j, by omega, h2⟩
  · rw [if_neg c] at h
    refine ⟨h.nodup_iff.mpr (List.nodup_append.mpr ⟨m.nd, by simp, fun x hx y hy z => c ?_⟩), ?_, fun k => ?_⟩
    · rw [List.mem_singleton.mp hy] at z; rw [← z]; exact hx
    · rw [h.length_eq, List.length_append, List.length_singleton]; have := m.le; omega
    · rw [h.mem_iff, List.mem_append, m.mem k, List.mem_singleton]
      constructor
      · rintro (⟨j, h1, h2⟩ | e)
        · exact ⟨j, by omega, h2⟩
        · exact ⟨i, by omega, e.symm⟩
      · rintro ⟨j, h1, h2⟩
        by_cases e : j = i
        · subst e; exact .inr h2.symm
        · exact .inl ⟨j, by omega, h2⟩
end
end FxS

set_option genSizeOf false
set_option genInjectivity false
namespace FxS
open PySem PyProof.Rows
section
variable {prog : Program} {w : World} {A : Around} {E : Value → Shared → Prop} {s : Shared}
end
end FxS

set_option genSizeOf false
set_option genInjectivity false
namespace FxS
open PySem PyProof.Rows
section
variable {prog : Program} {w : World} {A : Around} {E : Value → Shared → Prop} {s : Shared}
end
end FxS

set_option genSizeOf false
set_option genInjectivity false
namespace L2
open PySem PySem.Spec PyProof.Rows
section
variable {X : Cx}

noncomputable def CDivB (_ j : Int) : Prop := 0 < j ∧ j < 2 ^ 200
theorem op_fdivB : OpR X (binaryOp .FloorDiv) (rI CDivB fun i j => .int (i / j)) := opI fun i j _ _ _ _ _ hc q => by
  have h1 : (0 : Int) < j := hc.1
  have h2 : j < 2 ^ 200 := hc.2
  have h3 : j.natAbs.log2 < 9000 := by
    have h0 : j.natAbs ≠ 0 := by omega
    have h4 : j.natAbs < 2 ^ 200 := by
      have : ((j.natAbs : Nat) : Int) < ((2 ^ 200 : Nat) : Int) := by
        rw [Int.natAbs_of_nonneg (by omega)]
        exact h2
      exact Int.ofNat_lt.mp this
    exact Nat.lt_of_lt_of_le ((Nat.log2_lt h0).mpr h4) (by decide)
  exact floordiv_int (by omega) (by rw [Int.fdiv_eq_ediv_of_nonneg i (by omega)]; exact q) (.inl (PyProof.noPylong_of_log2 h3))

noncomputable def kitB0 (T T' : String) : Option Bool := if (T == T') = true then some true else if PySem.W.kitMeta T' = true then (fastBuiltinMro T).map (·.contains (.type T')) else none
theorem kitB {K : PySem.W.Frag} {T T' : String} {b : Bool} (h : kitB0 T T' = some b) : PySem.W.kitOne K (.type T) (.type T') = some b := by
  unfold kitB0 at h
  unfold PySem.W.kitOne
  by_cases e : T = T'
  · subst e
    rw [if_pos (by simp)] at h ⊢
    exact h
  · rw [if_neg (by simpa using e)] at h
    rw [if_neg (by simpa using e)]
    exact h
theorem call_isi : CallR X (.builtin "isinstance") (fun xs H Q => ∃ x T t b, xs = [x, .ty T] ∧ TyOf X.K H x t ∧ PySem.W.kitOne X.K t (.type T) = some b ∧ Q (.bl b) H) := by
  intro pins s σ H xs us Q I r h
  obtain ⟨x, T, t, b, rfl, ty, e, q⟩ := h
  obtain ⟨u, c, rfl, rx, rc⟩ := vals2 r
  cases (show c = Value.type T from rc)
  exact isinst_ok I rx ty e fun tk => ⟨.bl b, H, I.tok tk, rfl, q⟩
noncomputable def rngO (r : Addr) (a b c : Int) : HO := .ext fun h => ∃ t u v, IsRange h r a b c t u v
theorem rng_laid {pins : List (Addr × Obj)} {σ : St} {H : Hp} {s : Shared} {a b c : Int} {t u v : Tok} {tk : Nat} (I : Inv X pins σ H s) :
    Inv X pins σ (upd H s.heap.objs.size (rngO s.heap.objs.size a b c)) { s with heap := s.heap.push { cls := .type "range", data := .fields #[.int a t, .int b u, .int c v] }, toks := tk } :=
  I.laid (fun _ _ q => Heap.get?_push_of_some _ q) (Nat.le_refl _) ⟨⟨t, u, v, IsRange.new ..⟩, ⟨_, Heap.get?_push_size _ rfl⟩, fun h1 h2 ⟨t, u, v, e⟩ k => ⟨t, u, v, k _ e⟩⟩
noncomputable def rRange : List V → Hp → VK → Prop := fun xs H Q => ∃ a b c, (xs = [.int b] ∧ a = 0 ∧ c = 1 ∨ xs = [.int a, .int b] ∧ c = 1 ∨ xs = [.int a, .int b, .int c] ∧ c ≠ 0 ∧ c.natAbs < 1073741824) ∧ ∀ r, H r = none → Q (.ref r) (upd H r (rngO r a b c))
theorem call_rangeV : CallR X (.type "range") rRange := by
  intro pins s σ H xs us Q I r h
  obtain ⟨a, b, c, h1, q⟩ := h
  have hf : H s.heap.objs.size = none := I.hok.fresh (Nat.le_refl _)
  rcases h1 with ⟨e, e2, e3⟩ | ⟨e, e3⟩ | ⟨e, e2, e3⟩
  · subst e; subst e2; subst e3
    obtain ⟨u, rfl, ru⟩ := vals1 r
    obtain ⟨t, rfl⟩ := ru
    exact call_range_1 ⟨.ref _, _, rng_laid I, rfl, q _ hf⟩
  · subst e; subst e3
    obtain ⟨u, u2, rfl, ru, ru2⟩ := vals2 r
    obtain ⟨t, rfl⟩ := ru
    obtain ⟨t2, rfl⟩ := ru2
    exact call_range_2 ⟨.ref _, _, rng_laid I, rfl, q _ hf⟩
  · subst e
    cases r with
    | cons r1 r =>
      cases r with
      | cons r2 r =>
        cases r with
        | cons r3 r =>
          cases r
          obtain ⟨t, rfl⟩ := r1
          obtain ⟨t2, rfl⟩ := r2
          obtain ⟨t3, rfl⟩ := r3
          exact call_range_3 e2 ⟨.ref _, _, rng_laid I, rfl, q _ hf⟩ (.inl (PyProof.noPylong_small e3))
noncomputable def rngL (a c : Int) (n : Nat) : List Int := (List.range n).map fun (i : Nat) => a + (i : Int) * c
theorem rngL_length (a c : Int) (n : Nat) : (rngL a c n).length = n := by unfold rngL; simp
theorem ItemsOf.vals {a c : Int} {acc : Array Value} {n : Nat} (h : ItemsOf (fun i v => ∃ t, v = .int (a + i * c) t) acc n) : Vals ((rngL a c n).map V.int) acc.toList := by
  have key : ∀ (vs : List Value) (k : Nat), (∀ j v, vs[j]? = some v → ∃ t, v = Value.int (a + ((k + j : Nat) : Int) * c) t) → Vals ((List.range' k vs.length).map fun (i : Nat) => V.int (a + (i : Int) * c)) vs := by
    intro vs
    induction vs with
    | nil => intro k _; exact .nil
    | cons v r ih =>
      intro k hv
      rw [List.length_cons, List.range'_succ, List.map_cons]
      refine .cons (hv 0 v rfl) (ih (k + 1) fun j w e => ?_)
      obtain ⟨t, ht⟩ := hv (j + 1) w e
      exact ⟨t, by rw [ht, show k + (j + 1) = k + 1 + j by omega]⟩
  have h1 := key acc.toList 0 fun j v e => by
    obtain ⟨t, ht⟩ := h.2 j v (by rw [← Array.getElem?_toList]; exact e)
    exact ⟨t, by rw [ht, Nat.zero_add]⟩
  have hl : acc.toList.length = n := by rw [Array.length_toList]; exact h.1
  rw [hl] at h1
  unfold rngL
  rw [List.map_map, List.range_eq_range']
  exact h1
theorem call_listR (hc : X.calm = true) : CallR X (.type "list") (fun xs H Q => ∃ (r : Addr) (a b c : Int) (n : Nat), xs = [.ref r] ∧ H r = some (rngO r a b c) ∧ Builtin.Range.small a b c = true ∧ Builtin.Range.rangeSize a b c = ((n : Nat) : Int) ∧ n ≤ 2 ^ 24 ∧ ∀ l, H l = none → Q (.ref l) (upd H l (.lst ((rngL a c n).map V.int)))) := by
  intro pins s σ H xs us Q I r h
  obtain ⟨p, a, b, c, n, rfl, hp, h1, h2, h3, q⟩ := h
  obtain ⟨u, rfl, rx⟩ := vals1 r
  cases rx
  obtain ⟨⟨t, u, v, e⟩, _⟩ := I.hok p _ hp
  refine call_list_range (I.ok.hd hc) e h1 h2 h3 fun h' tk acc' c' kp e' hi => ?_
  have hz : n ≤ sizeLine := Nat.le_trans h3 (by rw [sizeLine_eq]; decide)
  refine ⟨.ref s.heap.objs.size, _, I.laid (t' := tk) kp (Nat.le_refl _) (show ObjOk X.prog X.w _ h' _ (.lst ((rngL a c n).map V.int)) from ⟨by rw [List.length_map, rngL_length]; exact hz, acc'.toList, c', ItemsOf.vals hi, by simpa using e'⟩), rfl, q _ (I.hok.fresh (Nat.le_refl _))⟩

theorem isL_lt {h : Heap} {p : Addr} {its : Array Value} (x : h.IsList p its) : p < h.objs.size := let ⟨_, e, _⟩ := x; Heap.lt_size e
theorem it_new {pins : List (Addr × Obj)} {σ : St} {H : Hp} {s s' : Shared} {o : Obj} (I : Inv X pins σ H s) (hm : Moved [s.heap.objs.size] (fun a b => b = a) { s with heap := s.heap.push o } s') : Inv X pins σ H s' := by
  rw [Moved.eq_with hm]
  exact I.kept (h' := s'.heap) (t' := s'.toks) fun b ob e => hm.heap b ob (by simpa using Nat.ne_of_lt (Heap.lt_size e)) (Heap.get?_push_of_some _ e)
theorem all_range (bs : List Bool) : (List.range bs.length).all (fun i => bs.getD i false) = bs.all id := by
  rw [Bool.eq_iff_iff]
  simp only [List.all_eq_true, List.mem_range, id]
  constructor
  · intro h b hb
    obtain ⟨i, hi, e⟩ := List.getElem_of_mem hb
    have := h i hi
    rw [List.getD_eq_getElem?_getD, List.getElem?_eq_getElem hi] at this
    rw [← e]; exact this
  · intro h i hi
    rw [List.getD_eq_getElem?_getD, List.getElem?_eq_getElem hi]
    exact h _ (List.getElem_mem hi)
theorem truth_of {P : Program} {w : World} {A : Around} {bs : List Bool} {its : List Value} (rv : Vals (bs.map V.bl) its) : TruthOf P w A (fun i v => its.toArray[i]? = some v) (fun i => bs.getD i false) := by
  intro i v s Q' E' e hQ
  have hl := rv.length
  rw [List.length_map] at hl
  have e2 : its[i]? = some v := by simpa using e
  have hi : i < bs.length := by have := (List.getElem?_eq_some_iff.mp e2).1; omega
  obtain ⟨w', ew, rw'⟩ := rv.get (i := i) (x := .bl (bs.getD i false)) (by rw [List.getElem?_map, List.getElem?_eq_getElem hi, List.getD_eq_getElem?_getD, List.getElem?_eq_getElem hi]; rfl)
  rw [e2] at ew; cases ew
  cases rw'
  exact wpAny_truthy_bool hQ
theorem call_allB (hc : X.calm = true) : CallR X (.builtin "all") (fun xs H Q => ∃ (p : Addr) (bs : List Bool), xs = [.ref p] ∧ SqL X.K H p (bs.map V.bl) ∧ Q (.bl (bs.all id)) H) := by
  intro pins s σ H xs us Q I r h
  obtain ⟨p, bs, rfl, hq, q⟩ := h
  obtain ⟨u, rfl, ru⟩ := vals1 r
  cases ru
  obtain ⟨its, rv, pl, hz⟩ := I.list hq
  have hl := rv.length
  rw [List.length_map] at hl
  refine call_all_walkS (wpAny_pyIter_list pl.isList ?_)
  have hne : p ≠ s.heap.objs.size := Nat.ne_of_lt (isL_lt pl.isList)
  refine ⟨s.heap.objs.size, _, _, _, its.toArray.size, _, _, fun i => bs.getD i false, rfl, (Walks.list (prog := X.prog) (w := X.w) (A := X.A.in1) (I.ok.hd hc) s.heap.objs.size p hne its.toArray).toS, ⟨⟨_, Heap.get?_push_size _ rfl, rfl, rfl⟩, pl.isList.push _⟩, truth_of rv, fun s' hm => ?_⟩
  refine ⟨.bl (bs.all id), H, it_new I hm, ?_, q⟩
  show Value.bool _ = Value.bool _
  congr 1
  rw [List.size_toArray, ← hl]
  exact all_range bs
end
end L2

set_option genSizeOf false
set_option genInjectivity false
namespace L2
open PySem PySem.Spec PyProof.Rows PySem.SeqAt

inductive EqE (H : Hp) : V → V → Bool → Prop where
  | int (i j : Int) : EqE H (.int i) (.int j) (decide (i = j))
  | bl (i j : Bool) : EqE H (.bl i) (.bl j) (decide (i = j))
  | str (i j : Str) : EqE H (.str i) (.str j) (decide (i = j))
  | tup {a b : Addr} {ns ms : List Int} (ha : H a = some (.tup (ns.map V.int))) (hb : H b = some (.tup (ms.map V.int))) : EqE H (.ref a) (.ref b) (decide (ns = ms))
theorem all_eq_ints : ∀ (ns ms : List Int), ((List.range (min ns.length ms.length)).all (fun j => decide (ns.getD j 0 = ms.getD j 0)) && decide (ns.length = ms.length)) = decide (ns = ms) := by
  intro ns ms
  rw [Bool.eq_iff_iff, Bool.and_eq_true, decide_eq_true_eq, decide_eq_true_eq, List.all_eq_true]
  constructor
  · rintro ⟨h1, h2⟩
    refine List.ext_getElem h2 fun i hi hj => ?_
    have := h1 i (List.mem_range.mpr (by omega))
    rw [decide_eq_true_eq, List.getD_eq_getElem?_getD, List.getD_eq_getElem?_getD, List.getElem?_eq_getElem hi, List.getElem?_eq_getElem hj] at this
    exact this
  · rintro rfl
    exact ⟨fun j _ => by simp, rfl⟩
theorem ints_inj : ∀ {ns ms : List Int}, ns.map V.int = ms.map V.int → ns = ms
  | [], [], _ => rfl
  | [], _ :: _, h => by simp at h
  | _ :: _, [], h => by simp at h
  | n :: ns, m :: ms, h => by
    simp only [List.map_cons, List.cons.injEq, V.int.injEq] at h
    rw [h.1, ints_inj h.2]
section
variable {X : Cx}
theorem units_in1 {A : Around} : A.in1.units = A.units + 1 := rfl
theorem eqE_at {pins : List (Addr × Obj)} {σ : St} {H : Hp} {s : Shared} {A : Around} {x y : V} {u v : Value} {b : Bool} (I : Inv X pins σ H s) (rx : RelV x u) (ry : RelV y v) (hu : A.units < cLine) (e : EqE H x y b) : EqAt A s u v b := by
  cases e with
  | int i j =>
    obtain ⟨t, rfl⟩ := rx
    obtain ⟨t', rfl⟩ := ry
    have := EqAt.int_int (A := A) (s := s) i t j t'
    rw [Bool.beq_eq_decide_eq] at this
    exact this
  | bl i j =>
    cases rx; cases ry
    have := EqAt.bool_bool (A := A) (s := s) i j
    rw [Bool.beq_eq_decide_eq] at this
    exact this
  | str i j =>
    obtain ⟨t, rfl⟩ := rx
    obtain ⟨t', rfl⟩ := ry
    have := EqAt.str_str (A := A) (s := s) i t j t'
    rw [Bool.beq_eq_decide_eq] at this
    exact this
  | @tup a b ns ms ha hb =>
    cases rx; cases ry
    by_cases hab : a = b
    · subst hab
      rw [ha] at hb
      have e : ns.map V.int = ms.map V.int := by injection hb with h; injection h
      have e2 : ns = ms := ints_inj e
      subst e2
      rw [decide_eq_true rfl]
      exact EqAt.same _
    · obtain ⟨i1, r1, p1, z1⟩ := I.tuple (SqT.of (K := X.K) ha)
      obtain ⟨i2, r2, p2, z2⟩ := I.tuple (SqT.of (K := X.K) hb)
      have n1 := intsAre_of r1
      have n2 := intsAre_of r2
      have l1 := n1.length
      have l2 := n2.length
      refine EqAt.of_refs hab ?_
      have q := RcAt.tuples (A := A) (s := s) (l := a) (b := b) (items := i1.toArray) (items2 := i2.toArray) (e := fun j => decide (ns.getD j 0 = ms.getD j 0)) p1 p2 hu (fun j h1 h2 => by
        obtain ⟨t, q1⟩ := n1.int_at j _ (show i1[j]? = some i1.toArray[j] by simp at h1; simp [h1])
        obtain ⟨t', q2⟩ := n2.int_at j _ (show i2[j]? = some i2.toArray[j] by simp at h2; simp [h2])
        rw [q1, q2]
        have := EqAt.int_int (A := A.in1) (s := s) (ns.getD j 0) t (ms.getD j 0) t'
        rw [Bool.beq_eq_decide_eq] at this
        exact this)
      rw [List.size_toArray, List.size_toArray, l1, l2] at q
      have e : ((List.range (min ns.length ms.length)).all (fun j => decide (ns.getD j 0 = ms.getD j 0)) && ns.length == ms.length) = decide (ns = ms) := by
        rw [← all_eq_ints ns ms, Bool.beq_eq_decide_eq]
      rw [e] at q
      exact q
theorem eqL_core {pins : List (Addr × Obj)} {σ : St} {H : Hp} {s : Shared} {p q : Addr} {xs ys : List V} {e : Nat → Bool} {Q : Value → Shared → Prop} (I : Inv X pins σ H s) (hu : X.A.units + 64 < cLine) (hp : SqL X.K H p xs) (hq : SqL X.K H q ys)
    (he : ∀ (j : Nat) a b, xs[j]? = some a → ys[j]? = some b → EqE H a b (e j)) (h : Q (.bool (decide (xs.length = ys.length) && (List.range xs.length).all e)) s) : wpAny (model X.prog X.w) X.A (compareOp .Eq (.ref p) (.ref q)) Q X.xe s := by
  obtain ⟨i1, r1, p1, z1⟩ := I.list hp
  obtain ⟨i2, r2, p2, z2⟩ := I.list hq
  have l1 := r1.length
  have l2 := r2.length
  have hu0 : X.A.units < cLine := by omega
  by_cases c : xs.length = ys.length
  · rw [decide_eq_true c, Bool.true_and, l1] at h
    refine eq_listAt (e := e) p1.isList p2.isList (by simp; omega) hu0 (fun j h1 h2 => ?_) (by simpa using h)
    simp at h1 h2
    obtain ⟨a, ha⟩ : ∃ a, xs[j]? = some a := ⟨_, List.getElem?_eq_getElem (by omega)⟩
    obtain ⟨b, hb⟩ : ∃ b, ys[j]? = some b := ⟨_, List.getElem?_eq_getElem (by omega)⟩
    obtain ⟨u, eu, ru⟩ := r1.get ha
    obtain ⟨v, ev, rv⟩ := r2.get hb
    have e1 : i1.toArray[j]'(by simpa using h1) = u := by
      rw [List.getElem?_eq_getElem h1] at eu
      simpa using eu
    have e2 : i2.toArray[j]'(by simpa using h2) = v := by
      rw [List.getElem?_eq_getElem h2] at ev
      simpa using ev
    rw [e1, e2]
    exact eqE_at I ru rv (by rw [units_in1]; omega) (he j a b ha hb)
  · rw [decide_eq_false c, Bool.false_and] at h
    exact eq_list_lengthsAt p1.isList p2.isList (by simp; omega) hu0 h
noncomputable def TupP (H : Hp) (v : V) (p : Int × Int) : Prop := ∃ t, v = .ref t ∧ H t = some (.tup [.int p.1, .int p.2])
noncomputable def RowV (H : Hp) (xs : List V) (r : List (Int × Int)) : Prop := Paired (TupP H) xs r
noncomputable def RowAt (H : Hp) (a : Addr) (r : List (Int × Int)) : Prop := ∃ xs, H a = some (.lst xs) ∧ RowV H xs r
theorem RowV.same {H H' : Hp} (e : Same H H') {xs : List V} {r : List (Int × Int)} (h : RowV H xs r) : RowV H' xs r := Paired.mapP h fun v p ⟨t, e1, e2⟩ => ⟨t, e1, e _ _ e2⟩
theorem RowAt.same {H H' : Hp} (e : Same H H') {a : Addr} {r : List (Int × Int)} (h : RowAt H a r) : RowAt H' a r := let ⟨xs, h1, h2⟩ := h; ⟨xs, e _ _ h1, RowV.same e h2⟩
theorem RowV.length {H : Hp} {xs : List V} {r : List (Int × Int)} (h : RowV H xs r) : xs.length = r.length := Paired.length h
theorem paired_get {α β : Type} {F : α → β → Prop} : ∀ {xs : List α} {ys : List β}, Paired F xs ys → ∀ (i : Nat) {x : α}, xs[i]? = some x → ∃ y, ys[i]? = some y ∧ F x y
  | _, _, .nil, i, x, e => by simp at e
  | _, _, .cons r t, 0, x, e => by simp at e; subst e; exact ⟨_, rfl, r⟩
  | _, _, .cons _ t, i + 1, x, e => by simpa using paired_get t i (by simpa using e)
theorem paired_get' {α β : Type} {F : α → β → Prop} : ∀ {xs : List α} {ys : List β}, Paired F xs ys → ∀ (i : Nat) {y : β}, ys[i]? = some y → ∃ x, xs[i]? = some x ∧ F x y
  | _, _, .nil, i, x, e => by simp at e
  | _, _, .cons r t, 0, x, e => by simp at e; subst e; exact ⟨_, rfl, r⟩
  | _, _, .cons _ t, i + 1, x, e => by simpa using paired_get' t i (by simpa using e)
theorem RowV.get {H : Hp} {xs : List V} {r : List (Int × Int)} (h : RowV H xs r) {i : Nat} (hi : i < r.length) : ∃ t, xs[i]? = some (.ref t) ∧ H t = some (.tup [.int (r.getD i (0, 0)).1, .int (r.getD i (0, 0)).2]) := by
  obtain ⟨x, e, t, e1, e2⟩ := paired_get' h i (List.getElem?_eq_getElem hi)
  subst e1
  refine ⟨t, e, ?_⟩
  rw [List.getD_eq_getElem?_getD, List.getElem?_eq_getElem hi]
  exact e2
theorem row_eqE {H : Hp} {xs ys : List V} {r r' : List (Int × Int)} (h : RowV H xs r) (h' : RowV H ys r') : ∀ (j : Nat) a b, xs[j]? = some a → ys[j]? = some b → EqE H a b (decide (r.getD j (0, 0) = r'.getD j (0, 0))) := by
  intro j a b ha hb
  obtain ⟨p, e1, t, rfl, e2⟩ := paired_get h j ha
  obtain ⟨q, f1, u, rfl, f2⟩ := paired_get h' j hb
  rw [List.getD_eq_getElem?_getD, List.getD_eq_getElem?_getD, e1, f1]
  show EqE H _ _ (decide (p = q))
  have e : decide (p = q) = decide ([p.1, p.2] = [q.1, q.2]) := by
    rw [Bool.eq_iff_iff, decide_eq_true_eq, decide_eq_true_eq]
    constructor
    · rintro rfl; rfl
    · intro z; simp at z; exact Prod.ext z.1 z.2
  rw [e]
  exact EqE.tup (ns := [p.1, p.2]) (ms := [q.1, q.2]) e2 f2
theorem all_eq_list {α : Type} [DecidableEq α] (d : α) (l m : List α) : (decide (l.length = m.length) && (List.range l.length).all fun j => decide (l.getD j d = m.getD j d)) = decide (l = m) := by
  rw [Bool.eq_iff_iff, Bool.and_eq_true, decide_eq_true_eq, decide_eq_true_eq, List.all_eq_true]
  constructor
  · rintro ⟨h2, h1⟩
    refine List.ext_getElem h2 fun i hi hj => ?_
    have := h1 i (List.mem_range.mpr hi)
    rw [decide_eq_true_eq, List.getD_eq_getElem?_getD, List.getD_eq_getElem?_getD, List.getElem?_eq_getElem hi, List.getElem?_eq_getElem hj] at this
    exact this
  · rintro rfl
    exact ⟨rfl, fun j _ => by simp⟩
inductive TwoL (K : PySem.W.Frag) (H : Hp) (p q : Addr) : Bool → Prop where
  | iL {ns ms : List Int} (h : SqL K H p (ns.map V.int)) (h' : SqL K H q (ms.map V.int)) : TwoL K H p q (decide (ns = ms))
  | bL {ns ms : List Bool} (h : SqL K H p (ns.map V.bl)) (h' : SqL K H q (ms.map V.bl)) : TwoL K H p q (decide (ns = ms))
  | rL {xs ys : List V} {r r' : List (Int × Int)} (h : SqL K H p xs) (h1 : RowV H xs r) (h' : SqL K H q ys) (h1' : RowV H ys r') : TwoL K H p q (decide (r = r'))
theorem TwoL.core {H : Hp} {p q : Addr} {b : Bool} (t : TwoL X.K H p q b) : ∃ xs ys e, SqL X.K H p xs ∧ SqL X.K H q ys ∧ (∀ (j : Nat) a b, xs[j]? = some a → ys[j]? = some b → EqE H a b (e j)) ∧ b = (decide (xs.length = ys.length) && (List.range xs.length).all e) := by
  cases t with
  | @iL ns ms h h' =>
    refine ⟨_, _, fun j => decide (ns.getD j 0 = ms.getD j 0), h, h', fun j a b ha hb => ?_, ?_⟩
    · rw [List.getElem?_map] at ha hb
      cases e1 : ns[j]? with
      | none => rw [e1] at ha; cases ha
      | some n =>
        cases e2 : ms[j]? with
        | none => rw [e2] at hb; cases hb
        | some m =>
          rw [e1] at ha; rw [e2] at hb
          cases ha; cases hb
          show EqE H (V.int n) (V.int m) (decide (ns.getD j 0 = ms.getD j 0))
          rw [List.getD_eq_getElem?_getD, List.getD_eq_getElem?_getD, e1, e2]
          exact .int n m
    · rw [List.length_map, List.length_map, all_eq_list]
  | @bL ns ms h h' =>
    refine ⟨_, _, fun j => decide (ns.getD j false = ms.getD j false), h, h', fun j a b ha hb => ?_, ?_⟩
    · rw [List.getElem?_map] at ha hb
      cases e1 : ns[j]? with
      | none => rw [e1] at ha; cases ha
      | some n =>
        cases e2 : ms[j]? with
        | none => rw [e2] at hb; cases hb
        | some m =>
          rw [e1] at ha; rw [e2] at hb
          cases ha; cases hb
          show EqE H (V.bl n) (V.bl m) (decide (ns.getD j false = ms.getD j false))
          rw [List.getD_eq_getElem?_getD, List.getD_eq_getElem?_getD, e1, e2]
          exact .bl n m
    · rw [List.length_map, List.length_map, all_eq_list]
  | @rL xs ys r r' h h1 h' h1' =>
    exact ⟨_, _, _, h, h', row_eqE h1 h1', by rw [h1.length, h1'.length, all_eq_list]⟩
noncomputable def rEqL (K : PySem.W.Frag) : R2 := fun x y H Q => ∃ p q b, x = .ref p ∧ y = .ref q ∧ TwoL K H p q b ∧ Q (.bl b) H
theorem op_eqL (hu : X.A.units + 64 < cLine) : OpR X (compareOp .Eq) (rEqL X.K) := by
  intro pins s σ H x y v u Q I rx ry h
  obtain ⟨p, q, b, rfl, rfl, t, h⟩ := h
  cases rx; cases ry
  obtain ⟨xs, ys, e, hp, hq, he, rfl⟩ := t.core
  exact eqL_core I hu hp hq he ⟨.bl _, H, I, rfl, h⟩
noncomputable def Itv (K : PySem.W.Frag) (a : Addr) (xs : List V) : It := ⟨fun i H => SqL K H a xs ∧ i < xs.length, fun i H x H' => H' = H ∧ xs[xs.length - 1 - i]? = some x, fun i _ => xs.length ≤ i⟩
theorem turn_rev {P : Program} {w : World} {K : PySem.W.Frag} {tg : Expr} (a it : Addr) (xs : List V) : Turn P w K tg (Itv K a xs) [it] it (fun i h => i ≤ xs.length ∧ h.IsRevIter it a ((xs.length : Int) - 1 - (i : Int))) where
  mem := by simp
  obj := fun i h st b hb => by
    have e : b = it := by simpa using hb
    subst e
    obtain ⟨_, o, e, c, d⟩ := st
    exact ⟨o, e, fun v z => by rw [d] at z; cases z⟩
  keep := fun i h h' st k => ⟨st.1, st.2.at fun o e => k it (by simp) o e⟩
  item := by
    intro X hP hw hK hc i pins s σ H E I hf st hg
    subst hP hw hK
    obtain ⟨hq, hi⟩ := hg
    obtain ⟨its, rv, p, hz⟩ := I.list hq
    have hl := rv.length
    obtain ⟨x, hx⟩ : ∃ x, xs[xs.length - 1 - i]? = some x := ⟨_, List.getElem?_eq_getElem (by omega)⟩
    obtain ⟨u, hu, ru⟩ := rv.get hx
    obtain ⟨f0, f1, f2, f3, f4, f5⟩ := hf it (by simp)
    have e1 : (xs.length : Int) - 1 - (i : Int) = ((xs.length - 1 - i : Nat) : Int) := by omega
    have st2 := st.2
    rw [e1] at st2
    refine wpAny_pyNext_rev_item st2 p.isList (x := u) (by simpa using hu) fun h' st' sb => ?_
    have e2 : ((xs.length - 1 - i : Nat) : Int) - 1 = (xs.length : Int) - 1 - ((i + 1 : Nat) : Int) := by omega
    rw [e2] at st'
    have I1 : Inv X pins σ H { s with heap := h' } := I.turned (t' := s.toks) (fun b o hb e => (sb.2 b hb).trans e) f0 f1 f3 f4 f5
    obtain ⟨o, e, c, d⟩ := id st'
    exact ⟨u, rfl, go_of (s := { s with heap := h' }) e c d (by decide) ⟨x, H, I1, ru, ⟨rfl, hx⟩, ⟨hi, st'⟩, fun b hb => (hf b hb).1⟩⟩
  done := by
    intro X hP hw hK hc i pins s σ H E I hf st hg
    subst hP hw hK
    have hg : xs.length ≤ i := hg
    obtain ⟨f0, f1, f2, f3, f4, f5⟩ := hf it (by simp)
    have e1 : (xs.length : Int) - 1 - (i : Int) = -1 := by have := st.1; omega
    have st2 := st.2
    rw [e1] at st2
    exact wpAny_pyNext_rev_end (I.ok.hd hc) st2 fun h' eb => ⟨rfl, I.turned (t' := s.toks) (fun b o hb e => eb b o hb e) f0 f1 f3 f4 f5⟩
  self := fun _ _ _ _ _ st h => wpAny_pyIter_revIter st.2 h
noncomputable def iRev (K : PySem.W.Frag) (ta : TA) : TI := fun σ H R => ta σ H fun vs H1 => ∃ a xs, vs = [.ref a] ∧ SqL K H1 a xs ∧ R (Itv K a xs) H1
theorem pi_rev {tg a : Expr} {ta : TA} {p pos : Pos} (hg : Gl X "reversed") (hm : X.mg "reversed" = none) (ha : PA X [a] ta) (hs : starEach [a] X.env = [(false, eval a X.env)] := by rfl) : PI X tg (.Call (.Name "reversed" p) [a] [] pos) (iRev X.K ta) := by
  intro pins s σ H R I h
  refine Call_ (ld_blt I hg hm boot_reversed (PyProof.Rows.callWith_type1 (thn (ha pos pins s σ H _ I h) fun us s1 ⟨vs, H1, I1, r1, q1⟩ => ?_) hs rfl))
  obtain ⟨a, xs, e, hq, q⟩ := q1
  subst e
  obtain ⟨u, rfl, ru⟩ := vals1 r1
  cases ru
  obtain ⟨its, rv, pl, hz⟩ := I1.list hq
  have hl := rv.length
  refine call_reversed_list pl.isList ?_
  have I2 : Inv X pins σ H1 { s1 with heap := s1.heap.push (revObj a ((its.toArray.size : Int) - 1)) } := I1.kept (t' := s1.toks) fun b o e => Heap.get?_push_of_some _ e
  have hit : Heap.IsRevIter (s1.heap.push (revObj a ((its.toArray.size : Int) - 1))) s1.heap.objs.size a ((xs.length : Int) - 1 - ((0 : Nat) : Int)) := by
    refine ⟨_, Heap.get?_push_size _ rfl, rfl, ?_⟩
    show Data.fields #[.ref a, rawInt ((its.toArray.size : Int) - 1)] = _
    rw [List.size_toArray, ← hl]
    simp
  refine wpAny_pyIter_revIter hit ?_
  refine ⟨s1.heap.objs.size, [s1.heap.objs.size], _, _, H1, rfl, I2, turn_rev a s1.heap.objs.size xs, ⟨Nat.zero_le _, hit⟩, fun b hb => ?_, q⟩
  have e : b = s1.heap.objs.size := by simpa using hb
  subst e
  exact I1.fpOk (Nat.le_refl _) (I1.hok.fresh (Nat.le_refl _))

end
end L2

set_option genSizeOf false
set_option genInjectivity false
namespace L2
open PySem PySem.Spec PyProof.Rows
section
variable {X : Cx}
noncomputable def Dfn (P : Program) (w : World) (K : PySem.W.Frag) (mg : Str → Option Value) (base : Heap) (x : Str) (k : Nat) (ps : List Str) (sp : Sp) : Prop :=
  ∃ (f : Addr) (fd : FuncData), mg x = some (.ref f) ∧ PySem.W.keepIn K (.ref f) = true ∧ Binds K fd ps [] ∧ FnOk P w K mg base CX0 k f fd ps sp
theorem pe_callD {k : Nat} {x : Str} {ps : List Str} {sp : Sp} {p pos : Pos} {e : Expr} {es : List Expr} {t : TA} (D : Dfn X.prog X.w X.K X.mg X.base x k ps sp) (hr : Room k X.A) (hg : Gl X x) (ha : PA X (e :: es) t)
    (hdb : (x == ("__debug__" : Str)) = false := by decide +kernel) (he : starEach (e :: es) X.env = (false, eval e X.env) :: starEach es X.env := by rfl) (hpl : (backTo pos (starEach es X.env)).any (·.1) = false := by rfl) :
    PE X (.Call (.Name x p) (e :: es) [] pos) (tCall sp [] E0 t) := by
  obtain ⟨f, fd, hm, hk, hb, F⟩ := D
  exact pe_call F hr hg hm hk hb .nil pass0 ha hdb he hpl

theorem pg_tupK {es : List Expr} {k n : Nat} {t : TGs} {pos : Pos} (K : PySem.W.Frag) (hK : X.K = K) (hc : X.calm = true) (h : PGs X es t)
    (hn : (assignEach es X.env).length = n := by rfl) (hst : (assignEach es X.env).findIdx? (·.1) = none := by rfl) : PG X (.Tuple es k pos) (gTup K n t) := by
  subst hK
  exact pg_tup hc h hn hst
theorem ix_listK (K : PySem.W.Frag) (hK : X.K = K) : IxR X (rIxL K) := by subst hK; exact ix_list
theorem ix_tupK (K : PySem.W.Frag) (hK : X.K = K) : IxR X (rIxT K) := by subst hK; exact ix_tup
theorem call_len_seqK (K : PySem.W.Frag) (hK : X.K = K) : CallR X (.builtin "len") (fun xs H Q => ∃ p ys, xs = [.ref p] ∧ (SqL K H p ys ∨ SqT K H p ys) ∧ Q (.int ys.length) H) := by subst hK; exact call_len_seq
theorem call_isiK (K : PySem.W.Frag) (hK : X.K = K) : CallR X (.builtin "isinstance") (fun xs H Q => ∃ x T t b, xs = [x, .ty T] ∧ TyOf K H x t ∧ PySem.W.kitOne K t (.type T) = some b ∧ Q (.bl b) H) := by subst hK; exact call_isi
noncomputable def compB (outer inner : Scope) (N : List Str) (cap : List (Nat × Str)) (own : List Str) : Bool :=
  (inner.kind == .function) && inner.names.all (fun y => y.2 != .cell) && inner.names.all (fun y => y.2 != .local || inner.names.lookup y.1 == some .local)
    && inner.names.all (fun y => y.2 != .free || (outer.names.lookup y.1 == some .cell && inner.names.lookup y.1 == some .free))
    && cap.all (fun p => N[p.1]? == some p.2) && own.all (fun x => inner.names.lookup x != some .free) && cap.all (fun p => inner.names.lookup p.2 == some .free)
theorem CompOk.of {outer inner : Scope} {N : List Str} {cap : List (Nat × Str)} {own : List Str} (he : X.env.scope = outer) (hN : X.N = N) (h : compB outer inner N cap own = true) : CompOk X inner cap own := by
  unfold compB at h
  simp only [Bool.and_eq_true] at h
  obtain ⟨⟨⟨⟨⟨⟨h1, h2⟩, h3⟩, h4⟩, h5⟩, h6⟩, h7⟩ := h
  refine ⟨by simpa using h1, fun y hy z => ?_, fun y hy z => ?_, fun y hy z => ?_, fun p hp => ?_, fun x hx z => ?_, fun p hp => ?_⟩
  · have := List.all_eq_true.mp h2 y hy
    rw [z] at this
    exact absurd this (by decide)
  · have := List.all_eq_true.mp h3 y hy
    rw [z] at this
    simpa using this
  · have := List.all_eq_true.mp h4 y hy
    rw [z] at this
    rw [he]
    simpa using this
  · have := List.all_eq_true.mp h5 p hp
    rw [hN]
    simpa using this
  · have := List.all_eq_true.mp h6 x hx
    rw [z] at this
    simp at this
  · have := List.all_eq_true.mp h7 p hp
    simpa using this
end
structure Blt (mg : Str → Option Value) : Prop where
  b_len : mg "len" = none
  b_isinstance : mg "isinstance" = none
  b_int : mg "int" = none
  b_bool : mg "bool" = none
  b_list : mg "list" = none
  b_tuple : mg "tuple" = none
  b_range : mg "range" = none
  b_reversed : mg "reversed" = none
  b_max : mg "max" = none
  b_abs : mg "abs" = none
  b_sum : mg "sum" = none
  b_all : mg "all" = none
  b_sorted : mg "sorted" = none
  b_set : mg "set" = none
  b_any : mg "any" = none
  b_min : mg "min" = none
  b_zip : mg "zip" = none
  b_enumerate : mg "enumerate" = none
  b_str : mg "str" = none
theorem Same.upd {H : Hp} {a : Addr} {o : HO} (h : H a = none) : Same H (upd H a o) := fun b u e => by rw [upd_ne (ne_of_none e h)]; exact e
theorem Same.upd' {H H' : Hp} {a : Addr} {o : HO} (s : Same H H') (h : H a = none) : Same H (L2.upd H' a o) := fun b u e => by rw [upd_ne (ne_of_none e h)]; exact s b u e
theorem Same.none {H H' : Hp} (s : Same H H') {a : Addr} (h : H' a = Option.none) : H a = Option.none := s.free h
end L2

set_option genSizeOf false
set_option genInjectivity false
namespace L2
open PySem
end L2

namespace L2
open PySem PyProof.Rows
section
variable {X : Cx}
end
end L2

set_option genSizeOf false
set_option genInjectivity false
namespace L2
open PySem PySem.Spec PyProof.Rows
section
variable {X : Cx}
end
section
variable {X : Cx}
end
end L2

set_option genSizeOf false
set_option genInjectivity false
namespace L2
open PySem PySem.Spec PyProof.Rows
section
variable {X : Cx} {pins : List (Addr × Obj)} {σ : St} {H : Hp} {s : Shared} {h' : Heap}
end
section
variable {X : Cx}
end
end L2

set_option genSizeOf false
set_option genInjectivity false
namespace L2
open PySem PySem.Spec PyProof.Rows
section
variable {X : Cx}
end
end L2

set_option genSizeOf false
set_option genInjectivity false
namespace L2
open PySem
theorem comp_fil {J : It} {n : Nat} {cap : List (Nat × Str)} {own : Nat} {g : TG} {tc : TT} {te : TE} {σ : St} {H : Hp} {Q : Addr → Hp → Prop} (c : Nat → Bool) (f : Nat → V) (hn : n ≤ 1000)
    (go : ∀ i H', Same H H' → i < n → J.go i H') (stop : ∀ H', Same H H' → J.stop n H')
    (turn : ∀ i x H' H1 (Q1 : V → Hp → Prop) (Q2 : Hp → Prop), i < n → Same H H' → J.yld i H' x H1 → (c i = true → ∀ H4, Same H' H4 → Q1 (f i) H4) → (c i = false → ∀ H3, Same H' H3 → Q2 H3) →
      g x (blk cap own σ) H1 fun σ2 H2 => (σ2.take cap.length = capσ cap σ ∧ σ2.length = cap.length + own) ∧ tc σ2 H2 fun b H3 => if b = true then te σ2 H3 Q1 else Q2 H3)
    (done : ∀ D H', H D = none → Same H H' → H' D = some (.lst (((List.range n).filter c).map f)) → Q D H') :
    ∀ D, H D = none → ∃ W : Nat → Nat → List V → Hp → Prop, (∃ m, W 0 m [] (upd H D (.lst []))) ∧ ∀ i m ys H, W i m ys H → H D = some (.lst ys) ∧
      ((J.stop i H ∧ Q D H) ∨ (J.go i H ∧ ∀ x H', J.yld i H x H' → g x (blk cap own σ) H' fun σ2 H2 =>
        (σ2.take cap.length = capσ cap σ ∧ σ2.length = cap.length + own) ∧ tc σ2 H2 fun b H3 =>
          if b = true then te σ2 H3 fun v H4 => H4 D = some (.lst ys) ∧ ys.length < sizeLine ∧ ∃ m', m' < m ∧ W (i + 1) m' (ys ++ [v]) (upd H4 D (.lst (ys ++ [v])))
          else ∃ m', m' < m ∧ W (i + 1) m' ys H3)) := by
  intro D hD
  refine ⟨fun i m ys H' => m = n - i ∧ i ≤ n ∧ Same H H' ∧ H' D = some (.lst ys) ∧ ys = ((List.range i).filter c).map f, ⟨n, by simp, Nat.zero_le _, Same.upd hD, upd_same, rfl⟩, ?_⟩
  rintro i m ys H' ⟨rfl, hi, s, hd, rfl⟩
  refine ⟨hd, ?_⟩
  by_cases hlt : i < n
  · refine .inr ⟨go i H' s hlt, fun x H1 y => turn i x H' H1 _ _ hlt s y (fun hc H4 s4 => ?_) (fun hc H3 s3 => ?_)⟩
    · have hl : (((List.range i).filter c).map f).length ≤ i := by
        rw [List.length_map]
        exact Nat.le_trans (List.length_filter_le _ _) (by simp)
      refine ⟨s4 _ _ hd, small1000 (by omega), n - (i + 1), by omega, rfl, hlt, (s.trans s4).upd' hD, upd_same, ?_⟩
      rw [List.range_succ, List.filter_append, List.map_append]
      simp [hc]
    · refine ⟨n - (i + 1), by omega, rfl, hlt, s.trans s3, s3 _ _ hd, ?_⟩
      rw [List.range_succ, List.filter_append, List.map_append]
      simp [hc]
  · have e : i = n := by omega
    subst e
    exact .inl ⟨stop H' s, done D H' hD s hd⟩
theorem fil_bl (c b : Nat → Bool) (n : Nat) : ((List.range n).filter c).map (fun i => V.bl (b i)) = (((List.range n).filter c).map b).map V.bl := by
  rw [List.map_map]; rfl
theorem all_fil {c b : Nat → Bool} {n : Nat} : (((List.range n).filter c).map b).all id = true ↔ ∀ i, i < n → c i = true → b i = true := by
  simp only [List.all_eq_true, List.mem_map, List.mem_filter, List.mem_range, id]
  constructor
  · intro h i h1 h2
    exact h _ ⟨i, ⟨h1, h2⟩, rfl⟩
  · rintro h _ ⟨i, ⟨h1, h2⟩, rfl⟩
    exact h i h1 h2
theorem ints_get {ns : List Int} {i : Nat} {x : V} (h : (ns.map V.int)[i]? = some x) : i < ns.length ∧ x = .int (ns.getD i 0) := by
  rw [List.getElem?_map] at h
  cases e : ns[i]? with
  | none => rw [e] at h; cases h
  | some z =>
    rw [e] at h
    refine ⟨(List.getElem?_eq_some_iff.mp e).1, ?_⟩
    rw [List.getD_eq_getElem?_getD, e]
    exact (Option.some.inj h).symm
theorem ints_at {ns : List Int} {i : Nat} (h : i < ns.length) : (ns.map V.int)[i]? = some (.int (ns.getD i 0)) := by
  rw [List.getElem?_map, List.getD_eq_getElem?_getD, List.getElem?_eq_getElem h]
  rfl
end L2

set_option genSizeOf false
set_option genInjectivity false
namespace Fm
noncomputable abbrev Row := List (Int × Int)
noncomputable def pl (r : Row) (i : Nat) : Int := (r.getD i (0, 0)).1
noncomputable def ht (r : Row) (i : Nat) : Int := (r.getD i (0, 0)).2
structure Good (r : Row) : Prop where
  rise : ∀ i j : Nat, i < j → j < r.length → pl r i < pl r j
  high : ∀ i : Nat, i < r.length → 1 ≤ ht r i

noncomputable def Kn (r : Row) (sd : Int) (i j : Nat) : Prop :=
  if sd = 1 then i < j ∧ j < r.length ∧ pl r j - pl r i ≤ ht r i else j < i ∧ i < r.length ∧ pl r i - pl r j ≤ ht r i
inductive Fall (r : Row) (sd : Int) (s : Nat) : Nat → Prop where
  | refl : Fall r sd s s
  | step {i j : Nat} : Fall r sd s i → Kn r sd i j → Fall r sd s j

noncomputable def run : Int → Row → Nat
  | _, [] => 0
  | c, (p, h) :: t => if p ≤ c then run (max c (p + h)) t + 1 else 0
noncomputable def fs (r : Row) (s : Nat) : Nat := s + 1 + run (pl r s + ht r s) (r.drop (s + 1))
noncomputable def mir (r : Row) : Row := (r.map fun p => (-p.1, p.2)).reverse

theorem run_le : ∀ (c : Int) (t : Row), run c t ≤ t.length
  | _, [] => Nat.le_refl _
  | c, (p, h) :: t => by
    unfold run
    split
    · have := run_le (max c (p + h)) t
      simp only [List.length_cons]; omega
    · exact Nat.zero_le _
theorem fs_le {r : Row} {s : Nat} (h : s < r.length) : fs r s ≤ r.length := by
  unfold fs
  have := run_le (pl r s + ht r s) (r.drop (s + 1))
  rw [List.length_drop] at this
  omega
theorem lt_fs (r : Row) (s : Nat) : s < fs r s := by unfold fs; omega
theorem mir_length (r : Row) : (mir r).length = r.length := by unfold mir; simp
theorem mir_at {r : Row} {i : Nat} (h : i < r.length) : (mir r)[i]? = (r[r.length - 1 - i]?).map fun p => (-p.1, p.2) := by
  unfold mir
  rw [List.getElem?_reverse (by simpa using h), List.getElem?_map]
  simp
theorem mir_pl {r : Row} {i : Nat} (h : i < r.length) : pl (mir r) i = - pl r (r.length - 1 - i) := by
  unfold pl
  have := mir_at h
  have h2 : r.length - 1 - i < r.length := by omega
  simp only [List.getD, this]
  rw [List.getElem?_eq_getElem h2]
  rfl
theorem mir_ht {r : Row} {i : Nat} (h : i < r.length) : ht (mir r) i = ht r (r.length - 1 - i) := by
  unfold ht
  have := mir_at h
  have h2 : r.length - 1 - i < r.length := by omega
  simp only [List.getD, this]
  rw [List.getElem?_eq_getElem h2]
  rfl
theorem Good.mir {r : Row} (g : Good r) : Good (mir r) where
  rise := fun i j h1 h2 => by
    rw [mir_length] at h2
    rw [mir_pl (by omega), mir_pl h2]
    have := g.rise (r.length - 1 - j) (r.length - 1 - i) (by omega) (by omega)
    omega
  high := fun i h => by
    rw [mir_length] at h
    rw [mir_ht h]
    exact g.high _ (by omega)
noncomputable def Sd (sd : Int) : Prop := sd = 1 ∨ sd = -1
theorem kn_lt {r : Row} {sd : Int} {i j : Nat} (k : Kn r sd i j) : i < r.length ∧ j < r.length := by
  unfold Kn at k
  split at k <;> omega
theorem fall_lt {r : Row} {sd : Int} {s j : Nat} (hs : s < r.length) (h : Fall r sd s j) : j < r.length := by
  cases h with
  | refl => exact hs
  | step _ k => exact (kn_lt k).2
theorem Sd.neg {sd : Int} (h : Sd sd) : Sd (-sd) := by
  rcases h with e | e <;> subst e
  · exact .inr rfl
  · exact .inl rfl
noncomputable def fell (r : Row) (s : Nat) (sd : Int) : List Nat :=
  if sd = 1 then List.range' s (fs r s - s) else List.range' (r.length - fs (mir r) (r.length - 1 - s)) (s + 1 - (r.length - fs (mir r) (r.length - 1 - s)))
structure Bfs (r : Row) (sd : Int) (s : Nat) (ws : List Nat) (d : Nat) : Prop where
  nd : ws.Nodup
  st : s ∈ ws
  fl : ∀ i ∈ ws, Fall r sd s i
  le : d ≤ ws.length
  cl : ∀ k i, k < d → ws[k]? = some i → ∀ j, Kn r sd i j → j ∈ ws
theorem Bfs.start (r : Row) (sd : Int) (s : Nat) : Bfs r sd s [s] 0 :=
  ⟨by simp, by simp, fun i hi => by rw [List.mem_singleton.mp hi]; exact .refl, by simp, fun k _ h => by omega⟩
structure BfsIn (r : Row) (sd : Int) (s : Nat) (ws : List Nat) (d : Nat) (one : Nat) (t : Nat) : Prop extends Bfs r sd s ws d where
  one_at : ws[d]? = some one
  met : ∀ j : Nat, Kn r sd one j → ((j : Int) - one) * sd ≤ t → j ∈ ws
theorem nodup_le : ∀ {n : Nat} {ws : List Nat}, ws.Nodup → (∀ i ∈ ws, i < n) → ws.length ≤ n
  | 0, ws, _, hl => by
    cases ws with
    | nil => exact Nat.le_refl _
    | cons a r => exact absurd (hl a (List.mem_cons_self ..)) (Nat.not_lt_zero _)
  | n + 1, ws, h, hl => by
    have h1 := nodup_le (n := n) (h.erase n) fun i hi => by
      have := (List.Nodup.mem_erase_iff h).mp hi
      have := hl i this.2
      omega
    rw [List.length_erase] at h1
    split at h1 <;> omega
theorem Bfs.lt {r : Row} {sd : Int} {s : Nat} {ws : List Nat} {d : Nat} (b : Bfs r sd s ws d) (hs : s < r.length) : ∀ i ∈ ws, i < r.length := fun i hi => fall_lt hs (b.fl i hi)
theorem Bfs.len {r : Row} {sd : Int} {s : Nat} {ws : List Nat} {d : Nat} (b : Bfs r sd s ws d) (hs : s < r.length) : ws.length ≤ r.length := nodup_le b.nd (b.lt hs)
theorem kn_far {r : Row} {sd : Int} (hd : Sd sd) {i j : Nat} (k : Kn r sd i j) : 1 ≤ ((j : Int) - i) * sd := by
  unfold Kn at k
  rcases hd with e | e
  · subst e; rw [if_pos rfl] at k; omega
  · subst e; rw [if_neg (by decide)] at k; omega
theorem Bfs.take {r : Row} {sd : Int} (hd : Sd sd) {s : Nat} {ws : List Nat} {d one : Nat} (b : Bfs r sd s ws d) (h : ws[d]? = some one) : BfsIn r sd s ws d one 0 :=
  { b with one_at := h, met := fun j k h => by have := kn_far hd k; omega }
theorem kn_at {r : Row} {sd : Int} (hd : Sd sd) {one at' t : Nat} (ho : one < r.length) (ha : at' < r.length) (e : (at' : Int) = one + sd * (t + 1)) (h : (pl r at' - pl r one).natAbs ≤ ht r one) : Kn r sd one at' := by
  unfold Kn
  rcases hd with x | x
  · subst x; rw [if_pos rfl]; omega
  · subst x; rw [if_neg (by decide)]; omega
theorem far_inj {sd : Int} (hd : Sd sd) {one at' j t : Nat} (e : (at' : Int) = one + sd * (t + 1)) (h : ((j : Int) - one) * sd = t + 1) : j = at' := by
  rcases hd with x | x <;> subst x <;> omega
theorem BfsIn.old {r : Row} {sd : Int} (hd : Sd sd) {s : Nat} {ws : List Nat} {d one t at' : Nat} (b : BfsIn r sd s ws d one t) (e : (at' : Int) = one + sd * (t + 1)) (h : at' ∈ ws) : BfsIn r sd s ws d one (t + 1) := by
  refine { b with met := ?_ }
  intro j k hj
  by_cases hc : ((j : Int) - one) * sd ≤ t
  · exact b.met j k hc
  · rw [far_inj hd e (j := j) (by omega)]; exact h
theorem BfsIn.new {r : Row} {sd : Int} (hd : Sd sd) {s : Nat} {ws : List Nat} {d one t at' : Nat} (hs : s < r.length) (b : BfsIn r sd s ws d one t) (ha : at' < r.length) (e : (at' : Int) = one + sd * (t + 1))
    (hk : (pl r at' - pl r one).natAbs ≤ ht r one) (h : ¬ at' ∈ ws) : BfsIn r sd s (ws ++ [at']) d one (t + 1) := by
  have mo : one ∈ ws := List.mem_of_getElem? b.one_at
  have ho : one < r.length := b.lt hs one mo
  have kk := kn_at hd ho ha e hk
  refine { nd := ?_, st := List.mem_append_left _ b.st, fl := ?_, le := ?_, cl := ?_, one_at := ?_, met := ?_ }
  · refine List.nodup_append.mpr ⟨b.nd, by simp, fun x hx y hy z => h ?_⟩
    rw [List.mem_singleton.mp hy] at z
    rw [← z]; exact hx
  · intro i hi
    rcases List.mem_append.mp hi with hi | hi
    · exact b.fl i hi
    · rw [List.mem_singleton.mp hi]; exact .step (b.fl one mo) kk
  · have := b.le; simp; omega
  · intro k i hk' hi j hj
    have h1 : k < ws.length := by have := b.le; omega
    rw [List.getElem?_append_left h1] at hi
    exact List.mem_append_left _ (b.cl k i hk' hi j hj)
  · have h1 : d < ws.length := (List.getElem?_eq_some_iff.mp b.one_at).1
    rw [List.getElem?_append_left h1]; exact b.one_at
  · intro j k hj
    by_cases hc : ((j : Int) - one) * sd ≤ t
    · exact List.mem_append_left _ (b.met j k hc)
    · rw [far_inj hd e (j := j) (by omega)]; simp
theorem Bfs.done {r : Row} {sd : Int} {s : Nat} {ws : List Nat} {d : Nat} (b : Bfs r sd s ws d) (h : ws.length ≤ d) (j : Nat) : j ∈ ws ↔ Fall r sd s j := by
  constructor
  · exact b.fl j
  · intro f
    induction f with
    | refl => exact b.st
    | @step i j _ k ih =>
      obtain ⟨n, hn⟩ := List.getElem?_of_mem ih
      exact b.cl n i (by have := (List.getElem?_eq_some_iff.mp hn).1; omega) hn j k
end Fm

set_option genSizeOf false
set_option genInjectivity false
namespace Fk
open PySem L2 Fm PyProof.Rows
noncomputable def top (i : Nat) : Stmt := PySem.Challenge.pw_fallrow_k08_refused.main.body.getD i (.Pass ⟨0, 0, 0, 0⟩)
noncomputable abbrev sNum : Stmt := top 10
noncomputable abbrev sPair : Stmt := top 11
noncomputable abbrev sStone : Stmt := top 12
noncomputable abbrev s_is_count : Stmt := top 13
noncomputable abbrev s_is_side : Stmt := top 14
noncomputable abbrev sChkRow : Stmt := top 15
noncomputable abbrev sChkStone : Stmt := top 16
noncomputable abbrev sChkSide : Stmt := top 17
noncomputable abbrev s_check_push : Stmt := top 18
noncomputable abbrev sMirr : Stmt := top 19
noncomputable abbrev sFirst : Stmt := top 20
noncomputable abbrev sFell : Stmt := top 21
noncomputable abbrev s_reached : Stmt := top 39
noncomputable abbrev s_fewest : Stmt := top 41
noncomputable abbrev s_rights : Stmt := top 42
noncomputable abbrev s_higher : Stmt := top 43
noncomputable abbrev s_written : Stmt := top 46
noncomputable abbrev s_law_ask : Stmt := top 48
noncomputable abbrev s_law_due : Stmt := top 49
noncomputable abbrev s_law_rows : Stmt := top 50
noncomputable abbrev s_law_stones : Stmt := top 51
noncomputable abbrev s_law_sides : Stmt := top 52
noncomputable abbrev s_law_pushes : Stmt := top 53
noncomputable abbrev sLaw : Stmt := top 54
end Fk

set_option genSizeOf false
set_option genInjectivity false
namespace Fk
open PySem L2 Fm PyProof.Rows
structure Cst (mg : Str → Option Value) (tR tL : Tok) : Prop where
  hR : mg "RIGHT" = some (.int 1 tR)
  hL : mg "LEFT" = some (.int (-1) tL)
theorem ty_kit {K : PySem.W.Frag} {H : Hp} {x : V} {T : String} (ty : TyOf K H x (.type T)) : kitB0 T "int" = some (decide (T = "int" ∨ T = "bool")) ∧ kitB0 T "bool" = some (decide (T = "bool")) ∧ kitB0 T "list" = some (decide (T = "list")) ∧ kitB0 T "tuple" = some (decide (T = "tuple")) := by
  cases ty <;> decide +kernel
theorem ty_tup {K : PySem.W.Frag} {H : Hp} {x : V} {t : Value} (ty : TyOf K H x t) (e : t = .type "tuple") : ∃ a xs, x = .ref a ∧ H a = some (.tup xs) := by
  cases ty with
  | tup e' => exact ⟨_, _, rfl, e'⟩
  | ins => cases e
  | _ => injection e with z; exact absurd z (by decide)
section
variable {P : Program} {w : World} {K : PySem.W.Frag} {mg : Str → Option Value} {base : Heap}
noncomputable def spNum (K : PySem.W.Frag) : Sp := fun vs H Q _ => ∃ x T, vs = [x] ∧ TyOf K H x (.type T) ∧ Q (.bl (decide (T = "int"))) H
theorem scNum : FnScope ["value"] ["value"] (defScope sNum) := ⟨rfl, rfl, rfl, by decide +kernel, rfl, by decide +kernel, by decide +kernel⟩
theorem ok_num {f : Addr} {fd : FuncData} (F : Fun K "is_number" "is_number" sNum f fd) (B : Blt mg) : FnOk P w K mg base CX0 1 f fd ["value"] (spNum K) := by
  refine F.ok scNum (fun vs H Q E h => ?_) (fun cdv A outer s H vs Q E hr h => ?_)
  · obtain ⟨x, T, rfl, _⟩ := h
    rfl
  · obtain ⟨x, T, rfl, ty, q⟩ := h
    obtain ⟨k1, k2, _⟩ := ty_kit ty
    refine ⟨_, (pss_one (ps_ret (pe_and (pe_callB call_isi (by rfl) B.b_isinstance boot_isinstance (pa_cons (pv 0) (pa_cons (pe_bltn (v := .ty "int") rfl B.b_int boot_int rfl) pa_nil))) (pe_one (pe_not (pe_callB call_isi (by rfl) B.b_isinstance boot_isinstance (pa_cons (pv 0) (pa_cons (pe_bltn (v := .ty "bool") rfl B.b_bool boot_bool rfl) pa_nil)))))))), ?_⟩
    refine ⟨_, rfl, _, _, _, _, rfl, ty, kitB k1, _, rfl, ?_⟩
    by_cases c : T = "int" ∨ T = "bool"
    · rw [decide_eq_true c]
      refine iteT ⟨_, rfl, _, _, _, _, rfl, ty, kitB k2, _, rfl, ?_⟩
      have e : (!decide (T = "bool")) = decide (T = "int") := by rcases c with rfl | rfl <;> rfl
      show Q (.bl (!decide (T = "bool"))) H
      rw [e]
      exact q
    · rw [decide_eq_false c]
      refine iteF ?_
      rw [decide_eq_false fun e => c (.inl e)] at q
      exact q
noncomputable def spPair (K : PySem.W.Frag) : Sp := fun vs H Q _ => ∃ x T, vs = [x] ∧ TyOf K H x (.type T) ∧ (∀ a xs, x = .ref a → H a = some (.tup xs) → Q (.bl (decide (xs.length = 2))) H) ∧ (T ≠ "tuple" → Q (.bl false) H)
theorem scPair : FnScope ["value"] ["value"] (defScope sPair) := ⟨rfl, rfl, rfl, by decide +kernel, rfl, by decide +kernel, by decide +kernel⟩
theorem dec_len (n : Nat) : decide (V.int (n : Int) = V.int 2) = decide (n = 2) := by
  rw [dec_int, Bool.eq_iff_iff, beq_iff_eq, decide_eq_true_eq]
  omega
theorem ok_pair {f : Addr} {fd : FuncData} (F : Fun K "is_pair" "is_pair" sPair f fd) (B : Blt mg) : FnOk P w K mg base CX0 1 f fd ["value"] (spPair K) := by
  refine F.ok scPair (fun vs H Q E h => ?_) (fun cdv A outer s H vs Q E hr h => ?_)
  · obtain ⟨x, T, rfl, _⟩ := h
    rfl
  · obtain ⟨x, T, rfl, ty, q1, q2⟩ := h
    obtain ⟨_, _, _, k4⟩ := ty_kit ty
    refine ⟨_, (pss_one (ps_ret (pe_and (pe_callB call_isi (by rfl) B.b_isinstance boot_isinstance (pa_cons (pv 0) (pa_cons (pe_bltn (v := .ty "tuple") rfl B.b_tuple boot_tuple rfl) pa_nil))) (pe_one (pe_cmpR op_eq (pe_callB call_len_seq (by rfl) B.b_len boot_len (pa_cons (pv 0) pa_nil)) pe_int (nomark _)))))), ?_⟩
    refine ⟨_, rfl, _, _, _, _, rfl, ty, kitB k4, _, rfl, ?_⟩
    by_cases c : T = "tuple"
    · rw [decide_eq_true c]
      subst c
      obtain ⟨a, xs, rfl, e⟩ := ty_tup ty rfl
      refine iteT ⟨_, rfl, a, xs, rfl, .inr (SqT.of e), rfl, ?_⟩
      rw [dec_len]
      exact q1 a xs rfl e
    · rw [decide_eq_false c]
      exact iteF (q2 c)
noncomputable def spStone : Sp := fun vs H Q _ => ∃ t p h, vs = [.ref t] ∧ H t = some (.tup [.int p, .int h]) ∧ Q (.bl (decide (1 ≤ h))) H
theorem scStone : FnScope ["value"] ["value"] (defScope sStone) := ⟨rfl, rfl, rfl, by decide +kernel, rfl, by decide +kernel, by decide +kernel⟩
theorem ok_stone {f : Addr} {fd : FuncData} (F : Fun K "is_stone" "is_stone" sStone f fd) (B : Blt mg) (d_is_pair : Dfn P w K mg base "is_pair" 1 ["value"] (spPair K)) (d_is_number : Dfn P w K mg base "is_number" 1 ["value"] (spNum K)) : FnOk P w K mg base CX0 2 f fd ["value"] spStone := by
  refine F.ok scStone (fun vs H Q E h => ?_) (fun cdv A outer s H vs Q E hr h => ?_)
  · obtain ⟨t, p, h, rfl, _⟩ := h
    rfl
  · obtain ⟨t, p, h, rfl, ht, q⟩ := h
    refine ⟨_, (pss_one (ps_ret (pe_and (pe_callD d_is_pair (hr.mono (by decide)) (by rfl) (pa_cons (pv 0) pa_nil)) (pe_and (pe_callD d_is_number (hr.mono (by decide)) (by rfl) (pa_cons (pe_ix ix_tup (pv 0) pe_int (fun _ _ => rfl)) pa_nil)) (pe_and (pe_callD d_is_number (hr.mono (by decide)) (by rfl) (pa_cons (pe_ix ix_tup (pv 0) pe_int (fun _ _ => rfl)) pa_nil)) (pe_one (pe_cmpR op_ge (pe_ix ix_tup (pv 0) pe_int (fun _ _ => rfl)) pe_int (nomark _)))))))), ?_⟩
    refine ⟨_, rfl, _, _, rfl, TyOf.tup ht, fun a xs e e2 => ?_, fun z => absurd rfl z⟩
    cases e
    rw [ht] at e2
    cases e2
    refine ⟨_, rfl, iteT ⟨_, rfl, t, _, 0, _, rfl, rfl, SqT.of ht, rfl, _, _, rfl, TyOf.int p, _, rfl, iteT ⟨_, rfl, t, _, 1, _, rfl, rfl, SqT.of ht, rfl, _, _, rfl, TyOf.int h, _, rfl, iteT ⟨_, rfl, t, _, 1, _, rfl, rfl, SqT.of ht, rfl, _, _, rfl, rfl, q⟩⟩⟩⟩
theorem dec_and {p q : Prop} [Decidable p] [Decidable q] : decide (p ∧ q) = (decide p && decide q) := by
  by_cases hp : p <;> by_cases hq : q <;> simp [hp, hq]
noncomputable def spCount (K : PySem.W.Frag) : Sp := fun vs H Q _ => ∃ a xs x T, vs = [.ref a, x] ∧ H a = some (.lst xs) ∧ TyOf K H x (.type T) ∧ (∀ i, x = .int i → Q (.bl (decide (0 ≤ i ∧ i < (xs.length : Int)))) H) ∧ (T ≠ "int" → Q (.bl false) H)
theorem scCount : FnScope ["row", "value"] ["row", "value"] (defScope s_is_count) := ⟨rfl, rfl, rfl, by decide +kernel, rfl, by decide +kernel, by decide +kernel⟩
theorem ty_int {K : PySem.W.Frag} {H : Hp} {x : V} {t : Value} (ty : TyOf K H x t) (e : t = .type "int") : ∃ i, x = .int i := by
  cases ty with
  | int i => exact ⟨i, rfl⟩
  | ins => cases e
  | _ => injection e with z; exact absurd z (by decide)
theorem ok_count {f : Addr} {fd : FuncData} (F : Fun K "is_count" "is_count" s_is_count f fd) (B : Blt mg) (d_is_number : Dfn P w K mg base "is_number" 1 ["value"] (spNum K)) : FnOk P w K mg base CX0 2 f fd ["row", "value"] (spCount K) := by
  refine F.ok scCount (fun vs H Q E h => ?_) (fun cdv A outer s H vs Q E hr h => ?_)
  · obtain ⟨a, xs, x, T, rfl, _⟩ := h
    rfl
  · obtain ⟨a, xs, x, T, rfl, ha, ty, q1, q2⟩ := h
    refine ⟨_, (pss_one (ps_ret (pe_and (pe_callD d_is_number (hr.mono (by decide)) (by rfl) (pa_cons (pv 1) pa_nil)) (pe_one (pe_chain op_le op_lt pe_int (pv 1) (pe_callB call_len_seq (by rfl) B.b_len boot_len (pa_cons (pv 0) pa_nil))))))), ?_⟩
    refine ⟨_, rfl, _, _, rfl, ty, _, rfl, ?_⟩
    by_cases c : T = "int"
    · rw [decide_eq_true c]
      obtain ⟨i, rfl⟩ := ty_int ty (by rw [c])
      refine iteT ⟨_, rfl, _, _, rfl, rfl, _, rfl, ?_⟩
      have q := q1 i rfl
      by_cases c0 : 0 ≤ i
      · rw [decide_eq_true c0]
        refine iteT ⟨_, rfl, a, xs, rfl, .inl (SqL.of ha), _, _, rfl, rfl, ?_⟩
        rw [dec_and, decide_eq_true c0] at q
        exact q
      · rw [decide_eq_false c0]
        rw [dec_and, decide_eq_false c0] at q
        exact iteF q
    · rw [decide_eq_false c]
      exact iteF (q2 c)
end
end Fk

set_option genSizeOf false
set_option genInjectivity false
namespace Fk
open PySem L2 Fm PyProof.Rows
section
variable {P : Program} {w : World} {K : PySem.W.Frag} {mg : Str → Option Value} {base : Heap}
structure RowOk (H : Hp) (a : Addr) (r : Row) : Prop where
  at_ : RowAt H a r
  gd : Good r
  le : r.length ≤ 1000
theorem RowOk.same {H H' : Hp} {a : Addr} {r : Row} (x : RowOk H a r) (s : Same H H') : RowOk H' a r := ⟨x.at_.same s, x.gd, x.le⟩
noncomputable def spChkRow : Sp := fun vs H Q _ => ∃ a r, vs = [.ref a] ∧ RowOk H a r ∧ Q .non H
theorem scChkRow : FnScope ["row", "stone", "k"] ["row"] (defScope sChkRow) := ⟨rfl, rfl, rfl, by decide +kernel, rfl, by decide +kernel, by decide +kernel⟩
theorem atI_cast {α : Type} {xs : List α} {i : Int} {j : Nat} {v : α} (e : i = (j : Int)) (h : xs[j]? = some v) : atI xs i = some v := by
  rw [e]
  exact atI_nat h
theorem ok_chkRow {f : Addr} {fd : FuncData} (F : Fun K "check_row" "check_row" sChkRow f fd) (B : Blt mg) (d_is_stone : Dfn P w K mg base "is_stone" 2 ["value"] spStone) : FnOk P w K mg base CX0 3 f fd ["row"] spChkRow := by
  refine F.ok scChkRow (fun vs H Q E h => ?_) (fun cdv A outer s H vs Q E hr h => ?_)
  · obtain ⟨a, r, rfl, _⟩ := h
    rfl
  · obtain ⟨a, r, rfl, ⟨⟨xs, ha, hx⟩, g, hle⟩, q⟩ := h
    have hlen := hx.length
    refine ⟨_, (pss_cons (ps_if (pt_not (pt_val (pe_callB call_isi (by rfl) B.b_isinstance boot_isinstance (pa_cons (pv 0) (pa_cons (pe_bltn (v := .ty "list") rfl B.b_list boot_list rfl) pa_nil)))))
        (pss_one ps_never)
        pss_nil)
      (pss_cons (ps_for PassesOwn.never rfl (pi_list (pv 0)) (pg_name (i := 1) scChkRow.nd rfl (Or.inl rfl))
        (pss_one (ps_if (pt_not (pt_val (pe_callD d_is_stone (hr.mono (by decide)) (by rfl) (pa_cons (pv 1) pa_nil))))
          (pss_one ps_never)
          pss_nil)))
      (pss_one (ps_for PassesOwn.never rfl (pi_range2 rfl B.b_range (pa_cons pe_int (pa_cons (pe_callB call_len_seq (by rfl) B.b_len boot_len (pa_cons (pv 0) pa_nil)) pa_nil))) (pg_name (i := 2) scChkRow.nd rfl (Or.inl rfl))
        (pss_one (ps_if (pt_cmpR op_le (pe_ix ix_tup (pe_ix ix_list (pv 0) (pv 2) (fun _ _ => rfl)) pe_int (fun _ _ => rfl)) (pe_ix ix_tup (pe_ix ix_list (pv 0) (pe_op op_sub (pv 2) pe_int) (fun _ _ => rfl)) pe_int (fun _ _ => rfl)) (nomark _))
          (pss_one ps_never)
          pss_nil)))))), ?_⟩
    -- the row is a list
    refine ⟨_, rfl, _, _, _, true, rfl, TyOf.lst ha, kitB (by decide +kernel), _, rfl, iteF ?_⟩
    -- each a stone
    refine ⟨_, rfl, a, rfl, ⟨_, SqL.of ha⟩, for_list (K := K) (a := a) (xs := xs) (fun i σ H2 => (∃ v, σ = [some (.ref a), v, none]) ∧ H2 = H) ⟨⟨none, rfl⟩, rfl⟩ (fun i σ H2 _ ⟨_, e⟩ => e ▸ SqL.of ha) ?_ ?_⟩
    · rintro i y σ H2 hi ⟨⟨v, rfl⟩, rfl⟩
      obtain ⟨p, e1, t, rfl, e2⟩ := paired_get hx i hi
      have hh : 1 ≤ p.2 := by
        have hi' : i < r.length := (List.getElem?_eq_some_iff.mp e1).1
        have := g.high i hi'
        unfold ht at this
        rw [List.getD_eq_getElem?_getD, e1] at this
        exact this
      exact ⟨_, rfl, t, p.1, p.2, rfl, e2, _, rfl, iteNS hh ⟨⟨_, rfl⟩, rfl⟩⟩
    · rintro σ H2 ⟨⟨v, rfl⟩, rfl⟩
      -- the places rise
      refine ⟨_, rfl, a, xs, rfl, .inl (SqL.of ha), 1, (xs.length : Int), rfl, ⟨by decide, by decide, by omega, by omega⟩, for_range (fun i σ H3 => (∃ v u, σ = [some (.ref a), v, u]) ∧ H3 = H2) ⟨⟨v, none, rfl⟩, rfl⟩ ?_ ?_⟩
      · rintro i σ H3 hi ⟨⟨v, u, rfl⟩, rfl⟩
        obtain ⟨t1, x1, h1⟩ := hx.get (i := i + 1) (by omega)
        obtain ⟨t0, x0, h0⟩ := hx.get (i := i) (by omega)
        have lt : ¬ pl r (i + 1) ≤ pl r i := by have := g.rise i (i + 1) (by omega) (by omega); omega
        refine ⟨_, rfl, _, rfl, a, xs, _, _, rfl, rfl, SqL.of ha, atI_cast (j := i + 1) (by omega) x1, t1, _, 0, _, rfl, rfl, SqT.of h1, rfl, _, rfl, _, rfl, _, _, rfl, rfl, a, xs, _, _, rfl, rfl, SqL.of ha, atI_cast (j := i) (by omega) x0, t0, _, 0, _, rfl, rfl, SqT.of h0, rfl, _, _, rfl, rfl, _, rfl, ?_⟩
        rw [decide_eq_false (show ¬ (r.getD (i + 1) (0, 0)).1 ≤ (r.getD i (0, 0)).1 from lt)]
        exact iteF ⟨⟨_, _, rfl⟩, rfl⟩
      · rintro σ H3 ⟨_, rfl⟩
        exact q
noncomputable def spChkStone : Sp := fun vs H Q _ => ∃ a xs i, vs = [.ref a, .int i] ∧ H a = some (.lst xs) ∧ 0 ≤ i ∧ i < (xs.length : Int) ∧ Q .non H
theorem scChkStone : FnScope ["row", "stone"] ["row", "stone"] (defScope sChkStone) := ⟨rfl, rfl, rfl, by decide +kernel, rfl, by decide +kernel, by decide +kernel⟩
theorem ok_chkStone {f : Addr} {fd : FuncData} (F : Fun K "check_stone" "check_stone" sChkStone f fd) (B : Blt mg) (d_is_count : Dfn P w K mg base "is_count" 2 ["row", "value"] (spCount K)) : FnOk P w K mg base CX0 3 f fd ["row", "stone"] spChkStone := by
  refine F.ok scChkStone (fun vs H Q E h => ?_) (fun cdv A outer s H vs Q E hr h => ?_)
  · obtain ⟨a, xs, i, rfl, _⟩ := h
    rfl
  · obtain ⟨a, xs, i, rfl, ha, h0, h1, q⟩ := h
    refine ⟨_, (pss_one (ps_if (pt_not (pt_val (pe_callD d_is_count (hr.mono (by decide)) (by rfl) (pa_cons (pv 0) (pa_cons (pv 1) pa_nil)))))
        (pss_one ps_never)
        pss_nil)), ?_⟩
    refine ⟨_, rfl, _, rfl, a, xs, _, _, rfl, ha, TyOf.int i, fun j e => ?_, fun z => absurd rfl z⟩
    cases e
    refine ⟨_, rfl, ?_⟩
    rw [decide_eq_true ⟨h0, h1⟩]
    exact iteF q
theorem dec_ints {i j : Int} : decide (V.int i = V.int j) = decide (i = j) := by
  rw [dec_int, Bool.beq_eq_decide_eq]
noncomputable def spMirr : Sp := fun vs H Q _ => ∃ a r, vs = [.ref a] ∧ RowOk H a r ∧ ∀ l H', H l = none → Same H H' → RowAt H' l (mir r) → Q (.ref l) H'
theorem scMirr : FnScope ["row"] ["row"] (defScope sMirr) := ⟨rfl, rfl, rfl, by decide +kernel, rfl, by decide +kernel, by decide +kernel⟩
theorem RowV.snoc {H : Hp} {xs : List V} {r : Row} {v : V} {p : Int × Int} (h : RowV H xs r) (t : TupP H v p) : RowV H (xs ++ [v]) (r ++ [p]) := Paired.snoc h t
theorem ok_mirr {f : Addr} {fd : FuncData} (F : Fun K "mirrored" "mirrored" sMirr f fd) (B : Blt mg) (d_check_row : Dfn P w K mg base "check_row" 3 ["row"] spChkRow) : FnOk P w K mg base CX0 4 f fd ["row"] spMirr := by
  refine F.ok scMirr (fun vs H Q E h => ?_) (fun cdv A outer s H vs Q E hr h => ?_)
  · obtain ⟨a, r, rfl, _⟩ := h
    rfl
  · obtain ⟨a, r, rfl, R, q⟩ := h
    obtain ⟨⟨xs, ha, hx⟩, g, hle⟩ := id R
    have hlen := hx.length
    refine ⟨_, (pss_cons (ps_expr (pe_callD d_check_row (hr.mono (by decide)) (by rfl) (pa_cons (pv 0) pa_nil)))
      (pss_one (ps_ret (pe_comp rfl (cap := []) (own := ["place", "height"]) (CompOk.of (outer := defScope sMirr) (N := ["row"]) rfl rfl (by decide +kernel)) (pi_rev rfl B.b_reversed (pa_cons (pv 0) pa_nil)) (fun _ _ _ _ => ⟨(pg_tupK (n := 2) K rfl rfl (pgs_cons (pg_name (i := 0) (show List.Nodup (["place", "height"] : List Str) by decide +kernel) rfl (Or.inl rfl)) (pgs_cons (pg_name (i := 1) (show List.Nodup (["place", "height"] : List Str) by decide +kernel) rfl (Or.inl rfl)) pgs_nil))), pf_nil, (pe_tup (pa_cons (pe_un un_neg (pv 0)) (pa_cons (pv 1) pa_nil)))⟩))))), ?_⟩
    refine ⟨_, rfl, a, r, rfl, R, ?_⟩
    refine ⟨_, rfl, a, xs, rfl, SqL.of ha, fun D hD => ⟨fun i m ys H2 => i ≤ r.length ∧ m = r.length - i ∧ Same H H2 ∧ H2 D = some (.lst ys) ∧ RowV H2 ys ((mir r).take i), ⟨r.length, Nat.zero_le _, rfl, Same.upd hD, upd_same, .nil⟩, ?_⟩⟩
    rintro i m ys H2 ⟨hi, rfl, s2, hD2, hy⟩
    refine ⟨hD2, ?_⟩
    by_cases c : i < r.length
    · refine .inr ⟨⟨SqL.of (s2 _ _ ha), by omega⟩, ?_⟩
      rintro x H3 ⟨rfl, hx3⟩
      rw [hlen] at hx3
      obtain ⟨p, e1, t, rfl, e2⟩ := paired_get hx _ hx3
      refine ⟨t, _, rfl, SqT.of (s2 _ _ e2), rfl, _, _, rfl, _, _, rfl, rfl, ⟨rfl, rfl⟩, _, rfl, _, rfl, _, rfl, by show 2 ≤ sizeLine; decide, fun u hu => ?_⟩
      have nD : D ≠ u := ne_of_none hD2 hu
      have ylen : ys.length = i := by rw [hy.length, List.length_take, mir_length]; omega
      refine ⟨by rw [upd_ne nD]; exact hD2, Nat.lt_of_lt_of_le (by rw [ylen]; omega : ys.length < 1001) (by rw [sizeLine_eq]; decide), r.length - (i + 1), by omega, by omega, rfl, ?_, upd_same, ?_⟩
      · exact (s2.trans (Same.upd hu)).upd' hD
      · have e3 : (mir r).take (i + 1) = (mir r).take i ++ [(-p.1, p.2)] := by
          rw [List.take_add_one, mir_at c, e1]
          rfl
        rw [e3]
        refine RowV.snoc ?_ ⟨u, rfl, by rw [upd_ne nD.symm, upd_same]⟩
        refine Paired.mapP hy fun v z ⟨t', z1, z2⟩ => ⟨t', z1, ?_⟩
        have n1 : t' ≠ D := fun e => by rw [e, hD2] at z2; cases z2
        rw [upd_ne n1, upd_ne (ne_of_none z2 hu)]
        exact z2
    · have e : i = r.length := by omega
      subst e
      refine .inl ⟨by show xs.length ≤ _; omega, ?_⟩
      rw [List.take_of_length_le (by rw [mir_length]; exact Nat.le_refl _)] at hy
      exact q D H2 hD s2 ⟨ys, hD2, hy⟩
noncomputable def spFirst : Sp := fun vs H Q _ => ∃ a r s, vs = [.ref a, .int ((s : Nat) : Int)] ∧ RowAt H a r ∧ r.length ≤ 1000 ∧ s < r.length ∧ Q (.int (fs r s)) H
theorem scFirst : FnScope ["row", "stone", "reach", "k"] ["row", "stone"] (defScope sFirst) := ⟨rfl, rfl, rfl, by decide +kernel, rfl, by decide +kernel, by decide +kernel⟩
theorem run_step {r : Row} {k : Nat} {c : Int} (hk : k < r.length) (h : pl r k ≤ c) : Fm.run c (r.drop k) = Fm.run (max c (pl r k + ht r k)) (r.drop (k + 1)) + 1 := by
  have e : r.drop k = (pl r k, ht r k) :: r.drop (k + 1) := by
    rw [List.drop_eq_getElem_cons hk]
    congr 1
    unfold pl ht
    rw [List.getD_eq_getElem?_getD, List.getElem?_eq_getElem hk]
    rfl
  rw [e, Fm.run, if_pos h]
theorem run_stop {r : Row} {k : Nat} {c : Int} (h : ¬ (k < r.length ∧ pl r k ≤ c)) : Fm.run c (r.drop k) = 0 := by
  by_cases hk : k < r.length
  · have e : r.drop k = (pl r k, ht r k) :: r.drop (k + 1) := by
      rw [List.drop_eq_getElem_cons hk]
      congr 1
      unfold pl ht
      rw [List.getD_eq_getElem?_getD, List.getElem?_eq_getElem hk]
      rfl
    rw [e, Fm.run, if_neg fun z => h ⟨hk, z⟩]
  · rw [List.drop_eq_nil_of_le (by omega)]
    rfl
theorem max_if (c d : Int) : (if d > c then d else c) = max c d := by
  split <;> omega
theorem ok_first {f : Addr} {fd : FuncData} (F : Fun K "first_standing" "first_standing" sFirst f fd) (B : Blt mg) : FnOk P w K mg base CX0 1 f fd ["row", "stone"] spFirst := by
  refine F.ok scFirst (fun vs H Q E h => ?_) (fun cdv A outer s H vs Q E hr h => ?_)
  · obtain ⟨a, r, s, rfl, _⟩ := h
    rfl
  · obtain ⟨a, r, st, rfl, ⟨xs, ha, hx⟩, hle, hs, q⟩ := h
    have hlen := hx.length
    obtain ⟨t, x0, h0⟩ := hx.get hs
    refine ⟨_, (pss_cons (ps_set (i := 2) scFirst.nd rfl (Or.inl rfl) (pe_op op_add (pe_ix ix_tup (pe_ix ix_list (pv 0) (pv 1) (fun _ _ => rfl)) pe_int (fun _ _ => rfl)) (pe_ix ix_tup (pe_ix ix_list (pv 0) (pv 1) (fun _ _ => rfl)) pe_int (fun _ _ => rfl))))
      (pss_cons (ps_set (i := 3) scFirst.nd rfl (Or.inl rfl) (pe_op op_add (pv 1) pe_int))
      (pss_cons (ps_while PassesOwn.never (PW.pt (pw_and (pt_cmpR op_lt (pv 3) (pe_callB call_len_seq (by rfl) B.b_len boot_len (pa_cons (pv 0) pa_nil)) (nomark _)) (pw_and1 (pt_cmpR op_le (pe_ix ix_tup (pe_ix ix_list (pv 0) (pv 3) (fun _ _ => rfl)) pe_int (fun _ _ => rfl)) (pv 2) (nomark _)))))
        (pss_cons (ps_set (i := 2) scFirst.nd rfl (Or.inl rfl) (pe_callB (call_max2 rfl) (by rfl) B.b_max boot_max (pa_cons (pv 2) (pa_cons (pe_op op_add (pe_ix ix_tup (pe_ix ix_list (pv 0) (pv 3) (fun _ _ => rfl)) pe_int (fun _ _ => rfl)) (pe_ix ix_tup (pe_ix ix_list (pv 0) (pv 3) (fun _ _ => rfl)) pe_int (fun _ _ => rfl))) pa_nil))))
        (pss_one (ps_aug (i := 3) scFirst.nd rfl (Or.inl rfl) pe_int ip_add))))
      (pss_one (ps_ret (pv 3)))))), ?_⟩
    refine ⟨_, rfl, _, rfl, a, xs, _, _, rfl, rfl, SqL.of ha, atI_nat x0, t, _, 0, _, rfl, rfl, SqT.of h0, rfl, _, rfl, _, rfl, a, xs, _, _, rfl, rfl, SqL.of ha, atI_nat x0, t, _, 1, _, rfl, rfl, SqT.of h0, rfl, _, _, rfl, rfl, ?_⟩
    refine ⟨_, rfl, _, _, rfl, rfl, ?_⟩
    -- while k < len(row) and row[k][0] <= reach
    refine ⟨fun m σ H2 => H2 = H ∧ ∃ (k : Nat) (c : Int), σ = [some (.ref a), some (.int (st : Int)), some (.int c), some (.int (k : Int))] ∧ k ≤ r.length ∧ m = r.length - k ∧ k + Fm.run c (r.drop k) = fs r st, ⟨_, rfl, st + 1, pl r st + ht r st, rfl, hs, rfl, rfl⟩, ?_⟩
    rintro m σ H2 ⟨rfl, k, c, rfl, hk, rfl, hf⟩
    refine ⟨_, rfl, _, rfl, a, xs, rfl, .inl (SqL.of ha), _, _, rfl, rfl, _, rfl, ?_⟩
    by_cases c1 : k < r.length
    · rw [decide_eq_true (show (k : Int) < (xs.length : Int) by omega)]
      obtain ⟨u, x1, h1⟩ := hx.get c1
      refine iteT ⟨_, rfl, _, rfl, a, xs, _, _, rfl, rfl, SqL.of ha, atI_nat x1, u, _, 0, _, rfl, rfl, SqT.of h1, rfl, _, rfl, _, _, rfl, rfl, _, rfl, ?_⟩
      by_cases c2 : pl r k ≤ c
      · rw [decide_eq_true (show (r.getD k (0, 0)).1 ≤ c from c2)]
        refine iteT ⟨fun σ H3 => H3 = H2 ∧ σ = [some (.ref a), some (.int (st : Int)), some (.int (max c (pl r k + ht r k))), some (.int ((k : Int) + 1))], ?_, ?_⟩
        · rintro σ' H' ⟨rfl, rfl⟩
          refine ⟨r.length - (k + 1), by omega, rfl, k + 1, _, rfl, c1, rfl, ?_⟩
          rw [run_step c1 c2] at hf
          omega
        · refine ⟨_, rfl, _, rfl, _, rfl, a, xs, _, _, rfl, rfl, SqL.of ha, atI_nat x1, u, _, 0, _, rfl, rfl, SqT.of h1, rfl, _, rfl, _, rfl, a, xs, _, _, rfl, rfl, SqL.of ha, atI_nat x1, u, _, 1, _, rfl, rfl, SqT.of h1, rfl, _, _, rfl, rfl, ?_⟩
          refine ⟨_, _, rfl, ?_⟩
          refine ⟨_, rfl, _, _, rfl, rfl, rfl, ?_⟩
          show [some (V.ref a), some (V.int (st : Int)), some (V.int (if pl r k + ht r k > c then pl r k + ht r k else c)), some (V.int ((k : Int) + 1))] = _
          rw [max_if]
      · rw [decide_eq_false (show ¬ (r.getD k (0, 0)).1 ≤ c from c2)]
        refine iteF ?_
        have := run_stop (r := r) (k := k) (c := c) fun z => c2 z.2
        rw [this] at hf
        refine ⟨_, rfl, ?_⟩
        rw [show ((k : Nat) : Int) = ((fs r st : Nat) : Int) by omega]
        exact q
    · rw [decide_eq_false (show ¬ (k : Int) < (xs.length : Int) by omega)]
      refine iteF (iteF ?_)
      have := run_stop (r := r) (k := k) (c := c) fun z => c1 z.1
      rw [this] at hf
      refine ⟨_, rfl, ?_⟩
      rw [show ((k : Nat) : Int) = ((fs r st : Nat) : Int) by omega]
      exact q
end
end Fk

set_option genSizeOf false
set_option genInjectivity false
namespace Fk
open PySem L2 Fm PyProof.Rows
section
variable {P : Program} {w : World} {K : PySem.W.Frag} {mg : Str → Option Value} {base : Heap}
noncomputable def spSide (K : PySem.W.Frag) : Sp := fun vs H Q _ => ∃ x T, vs = [x] ∧ TyOf K H x (.type T) ∧ (∀ i, x = .int i → Q (.bl (decide (i = 1 ∨ i = -1))) H) ∧ (T ≠ "int" → Q (.bl false) H)
theorem scSide : FnScope ["value"] ["value"] (defScope s_is_side) := ⟨rfl, rfl, rfl, by decide +kernel, rfl, by decide +kernel, by decide +kernel⟩
theorem ok_side {f : Addr} {fd : FuncData} {tR tL : Tok} (F : Fun K "is_side" "is_side" s_is_side f fd) (B : Blt mg) (C : Cst mg tR tL) (d_is_number : Dfn P w K mg base "is_number" 1 ["value"] (spNum K)) : FnOk P w K mg base CX0 2 f fd ["value"] (spSide K) := by
  refine F.ok scSide (fun vs H Q E h => ?_) (fun cdv A outer s H vs Q E hr h => ?_)
  · obtain ⟨x, T, rfl, _⟩ := h
    rfl
  · obtain ⟨x, T, rfl, ty, q1, q2⟩ := h
    refine ⟨_, (pss_one (ps_ret (pe_and (pe_callD d_is_number (hr.mono (by decide)) (by rfl) (pa_cons (pv 0) pa_nil)) (pe_one (pe_or (pe_cmpR op_eq (pv 0) (pe_glob (v := .int 1) rfl C.hR ⟨_, rfl⟩) (nomark _)) (pe_one (pe_cmpR op_eq (pv 0) (pe_glob (v := .int (-1)) rfl C.hL ⟨_, rfl⟩) (nomark _)))))))), ?_⟩
    refine ⟨_, rfl, _, _, rfl, ty, _, rfl, ?_⟩
    by_cases c : T = "int"
    · rw [decide_eq_true c]
      obtain ⟨i, rfl⟩ := ty_int ty (by rw [c])
      refine iteT ⟨_, rfl, rfl, _, rfl, ?_⟩
      have q := q1 i rfl
      rw [dec_ints]
      by_cases c0 : i = 1
      · rw [decide_eq_true c0]
        rw [decide_eq_true (.inl c0)] at q
        exact iteT q
      · rw [decide_eq_false c0]
        refine iteF ⟨_, rfl, rfl, ?_⟩
        rw [dec_ints]
        by_cases c1 : i = -1
        · rw [decide_eq_true c1]
          rw [decide_eq_true (.inr c1)] at q
          exact q
        · rw [decide_eq_false c1]
          rw [decide_eq_false (fun z => z.elim c0 c1)] at q
          exact q
    · rw [decide_eq_false c]
      exact iteF (q2 c)
noncomputable def spChkSide : Sp := fun vs H Q _ => ∃ i, vs = [.int i] ∧ Sd i ∧ Q .non H
theorem scChkSide : FnScope ["side"] ["side"] (defScope sChkSide) := ⟨rfl, rfl, rfl, by decide +kernel, rfl, by decide +kernel, by decide +kernel⟩
theorem ok_chkSide {f : Addr} {fd : FuncData} (F : Fun K "check_side" "check_side" sChkSide f fd) (d_is_side : Dfn P w K mg base "is_side" 2 ["value"] (spSide K)) : FnOk P w K mg base CX0 3 f fd ["side"] spChkSide := by
  refine F.ok scChkSide (fun vs H Q E h => ?_) (fun cdv A outer s H vs Q E hr h => ?_)
  · obtain ⟨i, rfl, _⟩ := h
    rfl
  · obtain ⟨i, rfl, hd, q⟩ := h
    refine ⟨_, (pss_one (ps_if (pt_not (pt_val (pe_callD d_is_side (hr.mono (by decide)) (by rfl) (pa_cons (pv 0) pa_nil))))
        (pss_one ps_never)
        pss_nil)), ?_⟩
    refine ⟨_, rfl, _, _, rfl, TyOf.int i, fun j e => ?_, fun z => absurd rfl z⟩
    cases e
    refine ⟨_, rfl, ?_⟩
    rw [decide_eq_true (show i = 1 ∨ i = -1 from hd)]
    exact iteF q
end
end Fk

set_option genSizeOf false
set_option genInjectivity false
namespace Fk
open PySem L2 Fm PyProof.Rows
noncomputable def nats (l : List Nat) : List V := l.map fun (n : Nat) => V.int (n : Int)
theorem rng_nats (s n : Nat) : (rngL (s : Int) 1 n).map V.int = nats (List.range' s n) := by
  unfold rngL nats
  rw [List.map_map, List.range'_eq_map_range, List.map_map]
  apply List.map_congr_left
  intro i _
  show V.int ((s : Int) + (i : Int) * 1) = V.int ((s + i : Nat) : Int)
  congr 1
  omega
theorem small_ok {a b : Int} (h1 : -(2 ^ 40) ≤ a) (h2 : a < 2 ^ 40) (h3 : -(2 ^ 40) ≤ b) (h4 : b < 2 ^ 40) : Builtin.Range.small a b 1 = true := small_one (by omega) (by omega) (by omega) (by omega)
theorem size_ok {a b : Int} {n : Nat} (h : (n : Int) = b - a ∨ (n = 0 ∧ b ≤ a)) : Builtin.Range.rangeSize a b 1 = (n : Int) := by
  rw [rangeSize_one]
  split <;> omega
theorem args2 {x : V} {i j : Int} (h : i = j) : [x, V.int i] ++ [] = [x, V.int j] := by subst h; rfl
theorem pair2 {i j k : Int} (h : i = j) : [V.int i, V.int k] = [V.int j, V.int k] := by rw [h]
theorem two_ok : 2 ≤ sizeLine := by decide
theorem Good.snoc {r : Row} (g : Good r) {p h : Int} (hp : ∀ i : Nat, i < r.length → pl r i < p) (hh : 1 ≤ h) : Good (r ++ [(p, h)]) where
  rise := fun i j h1 h2 => by
    rw [List.length_append, List.length_singleton] at h2
    have ei : pl (r ++ [(p, h)]) i = pl r i := by
      unfold pl
      rw [List.getD_eq_getElem?_getD, List.getD_eq_getElem?_getD, List.getElem?_append_left (by omega)]
    rw [ei]
    by_cases hj : j < r.length
    · have ej : pl (r ++ [(p, h)]) j = pl r j := by
        unfold pl
        rw [List.getD_eq_getElem?_getD, List.getD_eq_getElem?_getD, List.getElem?_append_left hj]
      rw [ej]
      exact g.rise i j h1 hj
    · have e : j = r.length := by omega
      subst e
      have ej : pl (r ++ [(p, h)]) r.length = p := by
        unfold pl
        rw [List.getD_eq_getElem?_getD, List.getElem?_append_right (Nat.le_refl _)]
        simp
      rw [ej]
      exact hp i (by omega)
  high := fun i h1 => by
    rw [List.length_append, List.length_singleton] at h1
    by_cases hi : i < r.length
    · have ei : ht (r ++ [(p, h)]) i = ht r i := by
        unfold ht
        rw [List.getD_eq_getElem?_getD, List.getD_eq_getElem?_getD, List.getElem?_append_left hi]
      rw [ei]
      exact g.high i hi
    · have e : i = r.length := by omega
      subst e
      have ej : ht (r ++ [(p, h)]) r.length = h := by
        unfold ht
        rw [List.getD_eq_getElem?_getD, List.getElem?_append_right (Nat.le_refl _)]
        simp
      rw [ej]
      exact hh
noncomputable def spLaw (K : PySem.W.Frag) : Sp := fun vs H Q _ => ∃ (a : Addr) (ns : List Int), vs = [.ref a] ∧ SqL K H a (ns.map V.int) ∧ ns.length ≤ 63 ∧ ∀ H', Q (.bl true) H'
theorem zero_ok : 0 ≤ sizeLine := Nat.zero_le _
end Fk

set_option genSizeOf false
set_option genInjectivity false
namespace Fk
open PySem L2 Fm PyProof.Rows
section
variable {P : Program} {w : World} {K : PySem.W.Frag} {mg : Str → Option Value} {base : Heap}
noncomputable def spFell : Sp := fun vs H Q _ => ∃ a r s sd, vs = [.ref a, .int ((s : Nat) : Int), .int sd] ∧ RowOk H a r ∧ s < r.length ∧ Sd sd ∧ ∀ l H', H l = none → Same H H' → H' l = some (.lst (nats (fell r s sd))) → Q (.ref l) H'
theorem scFell : FnScope ["row", "stone", "side", "last", "end"] ["row", "stone", "side"] (defScope sFell) := ⟨rfl, rfl, rfl, by decide +kernel, rfl, by decide +kernel, by decide +kernel⟩
theorem ok_fell {f : Addr} {fd : FuncData} {tR tL : Tok} (F : Fun K "felled" "felled" sFell f fd) (B : Blt mg) (C : Cst mg tR tL) (d_check_row : Dfn P w K mg base "check_row" 3 ["row"] spChkRow) (d_check_stone : Dfn P w K mg base "check_stone" 3 ["row", "stone"] spChkStone)
    (d_check_side : Dfn P w K mg base "check_side" 3 ["side"] spChkSide) (d_first_standing : Dfn P w K mg base "first_standing" 1 ["row", "stone"] spFirst) (d_mirrored : Dfn P w K mg base "mirrored" 4 ["row"] spMirr) : FnOk P w K mg base CX0 5 f fd ["row", "stone", "side"] spFell := by
  refine F.ok scFell (fun vs H Q E h => ?_) (fun cdv A outer s H vs Q E hr h => ?_)
  · obtain ⟨a, r, s, sd, rfl, _⟩ := h
    rfl
  · obtain ⟨a, r, st, sd, rfl, R, hs, hd, q⟩ := h
    obtain ⟨⟨xs, ha, hx⟩, g, hle⟩ := id R
    have hlen := hx.length
    refine ⟨_, (pss_cons (ps_expr (pe_callD d_check_row (hr.mono (by decide)) (by rfl) (pa_cons (pv 0) pa_nil)))
      (pss_cons (ps_expr (pe_callD d_check_stone (hr.mono (by decide)) (by rfl) (pa_cons (pv 0) (pa_cons (pv 1) pa_nil))))
      (pss_cons (ps_expr (pe_callD d_check_side (hr.mono (by decide)) (by rfl) (pa_cons (pv 2) pa_nil)))
      (pss_cons (ps_if (pt_cmpR op_eq (pv 2) (pe_glob (v := .int 1) rfl C.hR ⟨_, rfl⟩) (nomark _))
        (pss_one (ps_ret (pe_callTy (call_listR rfl) (by rfl) B.b_list boot_list (pa_cons (pe_callTy call_rangeV (by rfl) B.b_range boot_range (pa_cons (pv 1) (pa_cons (pe_callD d_first_standing (hr.mono (by decide)) (by rfl) (pa_cons (pv 0) (pa_cons (pv 1) pa_nil))) pa_nil))) pa_nil))))
        pss_nil)
      (pss_cons (ps_set (i := 3) scFell.nd rfl (Or.inl rfl) (pe_op op_sub (pe_callB call_len_seq (by rfl) B.b_len boot_len (pa_cons (pv 0) pa_nil)) pe_int))
      (pss_cons (ps_set (i := 4) scFell.nd rfl (Or.inl rfl) (pe_callD d_first_standing (hr.mono (by decide)) (by rfl) (pa_cons (pe_callD d_mirrored (hr.mono (by decide)) (by rfl) (pa_cons (pv 0) pa_nil)) (pa_cons (pe_op op_sub (pv 3) (pv 1)) pa_nil))))
      (pss_one (ps_ret (pe_callTy (call_listR rfl) (by rfl) B.b_list boot_list (pa_cons (pe_callTy call_rangeV (by rfl) B.b_range boot_range (pa_cons (pe_op op_add (pe_op op_sub (pv 3) (pv 4)) pe_int) (pa_cons (pe_op op_add (pv 1) pe_int) pa_nil))) pa_nil)))))))))), ?_⟩
    refine ⟨_, rfl, a, r, rfl, R, ?_⟩
    refine ⟨_, rfl, _, rfl, a, xs, _, rfl, ha, by omega, by omega, ?_⟩
    refine ⟨_, rfl, _, rfl, hd, ?_⟩
    refine ⟨_, rfl, rfl, _, rfl, ?_⟩
    have hfs := fs_le hs
    have hf2 := lt_fs r st
    rw [dec_ints]
    by_cases c : sd = 1
    · rw [decide_eq_true c]
      refine iteT ⟨_, rfl, _, rfl, _, rfl, a, r, st, rfl, R.at_, hle, hs, st, _, 1, .inr (.inl ⟨rfl, rfl⟩), fun u hu => ?_⟩
      refine ⟨u, _, _, _, fs r st - st, rfl, upd_same, small_ok (by omega) (by omega) (by omega) (by omega), size_ok (by omega), by omega, fun l hl => ?_⟩
      refine q l _ (Same.free (Same.upd hu) hl) ((Same.upd hu).trans (Same.upd hl)) ?_
      rw [upd_same, rng_nats]
      unfold fell
      rw [if_pos c]
    · rw [decide_eq_false c]
      have e : sd = -1 := hd.resolve_left c
      refine iteF ⟨_, rfl, a, xs, rfl, .inl (SqL.of ha), _, _, rfl, rfl, ?_⟩
      refine ⟨_, rfl, a, r, rfl, R, fun l1 H1 hl1 s1 R1 => ⟨_, rfl, _, rfl, _, _, rfl, rfl, l1, mir r, r.length - 1 - st, args2 (i := (xs.length : Int) - 1 - (st : Int)) (by omega), R1, by rw [mir_length]; exact hle, by rw [mir_length]; omega, ?_⟩⟩
      have h1 := lt_fs (mir r) (r.length - 1 - st)
      have h2 := fs_le (r := mir r) (s := r.length - 1 - st) (by rw [mir_length]; omega)
      rw [mir_length] at h2
      refine ⟨_, rfl, _, rfl, _, _, rfl, rfl, _, _, rfl, rfl, _, rfl, _, _, rfl, rfl, ((r.length - fs (mir r) (r.length - 1 - st) : Nat) : Int), (st : Int) + 1, 1, .inr (.inl ⟨pair2 (i := (xs.length : Int) - 1 - (fs (mir r) (r.length - 1 - st) : Nat) + 1) (by omega), rfl⟩), fun u hu => ?_⟩
      refine ⟨u, _, _, _, st + 1 - (r.length - fs (mir r) (r.length - 1 - st)), rfl, upd_same, small_ok (by omega) (by omega) (by omega) (by omega), size_ok (by omega), by omega, fun l hl => ?_⟩
      have s2 : Same H (L2.upd H1 u (rngO u ((r.length - fs (mir r) (r.length - 1 - st) : Nat) : Int) ((st : Int) + 1) 1)) := s1.trans (Same.upd hu)
      refine q l _ (Same.free s2 hl) (s2.trans (Same.upd hl)) ?_
      rw [upd_same, rng_nats]
      unfold fell
      rw [if_neg c]
end
end Fk

set_option genSizeOf false
set_option genInjectivity false
namespace FxS
open PySem PySem.Spec PyProof.Rows PySem.W
section
variable {key : Nat → Int}
noncomputable def kv (key : Nat → Int) (p : Array Nat) (a : Nat) : Int := key (p.getD a 0)
noncomputable def Up (key : Nat → Int) (p : Array Nat) (m : Nat) : Prop := ∀ a b, a ≤ b → b < m → kv key p a ≤ kv key p b
noncomputable def Dn (key : Nat → Int) (p : Array Nat) (m : Nat) : Prop := ∀ a b, a ≤ b → b < m → kv key p b ≤ kv key p a
noncomputable def Ok (N : Nat) (p : Array Nat) : Prop := p.toList.Perm (List.range N)
theorem Ok.size {N : Nat} {p : Array Nat} (h : Ok N p) : p.size = N := by
  have := List.Perm.length_eq h
  rw [List.length_range, Array.length_toList] at this
  exact this
theorem getD_at {p : Array Nat} {a : Nat} (h : a < p.size) : p.getD a 0 = p[a] := by simp [Array.getD, h]
theorem Ok.lt {N : Nat} {p : Array Nat} (h : Ok N p) {a : Nat} (ha : a < N) : p.getD a 0 < N := by
  have h1 : a < p.size := by rw [h.size]; exact ha
  rw [getD_at h1]
  have : p[a] ∈ p.toList := by simp
  exact List.mem_range.mp ((List.Perm.mem_iff h).mp this)
theorem Ok.of {N : Nat} {p q : Array Nat} (h : Ok N p) (e : q.Perm p) : Ok N q := (Array.perm_iff_toList_perm.mp e).trans h
theorem kv_of {p q : Array Nat} {a b : Nat} (h : p[a]? = q[b]?) : kv key p a = kv key q b := by
  unfold kv
  rw [Array.getD_eq_getD_getElem?, Array.getD_eq_getD_getElem?, h]
theorem kv_rev {p : Array Nat} {i j : Nat} (hj : j ≤ p.size) (a : Nat) : kv key (kas_rev p i j) a = if i ≤ a ∧ a < j then kv key p (i + j - 1 - a) else kv key p a := by
  have e := getElem?_mirror_all (xs := p) (i := i) hj a
  by_cases c : i ≤ a ∧ a < j
  · rw [if_pos c] at e ⊢
    exact kv_of e
  · rw [if_neg c] at e ⊢
    exact kv_of e
theorem Up.of {p q : Array Nat} {m : Nat} (h : Up key p m) (e : ∀ a, kv key q a = kv key p a) : Up key q m := fun a b h1 h2 => by rw [e, e]; exact h a b h1 h2
theorem Dn.of {p q : Array Nat} {m : Nat} (h : Dn key p m) (e : ∀ a, kv key q a = kv key p a) : Dn key q m := fun a b h1 h2 => by rw [e, e]; exact h a b h1 h2
theorem Up.snoc {p : Array Nat} {m : Nat} (h : Up key p m) (c : ¬ kv key p m < kv key p (m - 1)) : Up key p (m + 1) := fun a b h1 h2 => by
  by_cases e : b < m
  · exact h a b h1 e
  · have e : b = m := by omega
    subst e
    by_cases d : a = b
    · rw [d]; exact Int.le_refl _
    · have := h a (b - 1) (by omega) (by omega)
      omega
theorem Dn.snoc {p : Array Nat} {m : Nat} (h : Dn key p m) (c : kv key p m ≤ kv key p (m - 1)) : Dn key p (m + 1) := fun a b h1 h2 => by
  by_cases e : b < m
  · exact h a b h1 e
  · have e : b = m := by omega
    subst e
    by_cases d : a = b
    · rw [d]; exact Int.le_refl _
    · have := h a (b - 1) (by omega) (by omega)
      omega
theorem Dn.turn {p : Array Nat} {m : Nat} (h : Dn key p m) (hz : m ≤ p.size) : Up key (kas_rev p 0 m) m := fun a b h1 h2 => by
  rw [kv_rev hz, kv_rev hz, if_pos (by omega), if_pos (by omega)]
  exact h _ _ (by omega) (by omega)
variable {cmp : Nat → Nat → (Bool → Shared → Prop) → Shared → Prop} {s : Shared} {N : Nat}
end
end FxS

set_option genSizeOf false
set_option genInjectivity false
namespace L2
open PySem PySem.Spec PyProof.Rows
section
variable {X : Cx} {tg : Expr}
end
section
variable {X : Cx}
end
section
variable {X : Cx}
end
noncomputable def TupsV (F : Nat → List V → Prop) (H : Hp) (xs : List V) : Prop := ∀ (k : Nat) x, xs[k]? = some x → ∃ t vs, x = .ref t ∧ H t = some (.tup vs) ∧ F k vs
theorem TupsV.mono {F G : Nat → List V → Prop} {H H' : Hp} {xs : List V} (h : TupsV F H xs) (hs : ∀ t vs, H t = some (.tup vs) → H' t = some (.tup vs)) (hf : ∀ k vs, F k vs → G k vs) : TupsV G H' xs := fun k x e =>
  let ⟨t, vs, e1, e2, e3⟩ := h k x e
  ⟨t, vs, e1, hs _ _ e2, hf _ _ e3⟩
theorem TupsV.row {H : Hp} : ∀ {xs : List V} {r : List (Int × Int)}, xs.length = r.length → TupsV (fun k vs => vs = [.int (r.getD k (0, 0)).1, .int (r.getD k (0, 0)).2]) H xs → RowV H xs r
  | [], [], _, _ => .nil
  | [], _ :: _, e, _ => nomatch e
  | _ :: _, [], e, _ => nomatch e
  | x :: xs, p :: r, e, h => by
    obtain ⟨t, vs, e1, e2, e3⟩ := h 0 x rfl
    refine .cons ⟨t, e1, ?_⟩ (TupsV.row (Nat.succ.inj e) fun k y hy => h (k + 1) y hy)
    rw [e2, e3]
    rfl
section
variable {X : Cx}
end
end L2

set_option genSizeOf false
set_option genInjectivity false
namespace FxS
open PySem PySem.Spec PyProof.Rows
section
variable {prog : Program} {w : World} {A : Around} {E : Value → Shared → Prop} {s : Shared} {b₀ : Array Keyed}
end
end FxS

set_option genSizeOf false
set_option genInjectivity false
namespace L2
open PySem PySem.Spec PyProof.Rows
section
variable {X : Cx}
end
end L2

set_option genSizeOf false
set_option genInjectivity false
namespace FxS
open PySem PySem.Spec PyProof.Rows PySem.W
section
variable {prog : Program} {w : World} {A : Around} {E : Value → Shared → Prop} {s : Shared}
noncomputable def PrAt (h : Heap) (v : Value) (x y : Int) : Prop := ∃ (a : Addr) (o : Obj) (tx ty : Tok) (n : Nat), v = .ref a ∧ h.get? a = some o ∧ o.cls = .type "tuple" ∧ o.data = .seq #[.int x tx, .int y ty] n
noncomputable def Prs (h : Heap) (vs : List Value) (ps : List (Int × Int)) : Prop := vs.length = ps.length ∧ ∀ i, i < ps.length → PrAt h (vs.getD i Value.none) (ps.getD i (0, 0)).1 (ps.getD i (0, 0)).2
theorem Prs.tups {h : Heap} : ∀ {vs : List Value} {ps : List (Int × Int)}, Prs h vs ps → ∃ fs, KatTups h vs fs ∧ fs.length = vs.length ∧ ∀ f, f ∈ fs → ∃ n t, f = Value.int n t
  | [], _, _ => ⟨[], trivial, rfl, fun f hf => nomatch hf⟩
  | v :: vs, [], hp => nomatch hp.1
  | v :: vs, p :: ps, hp => by
    obtain ⟨fs, h1, h2, h3⟩ := Prs.tups (vs := vs) (ps := ps) ⟨Nat.succ.inj hp.1, fun i hi => hp.2 (i + 1) (Nat.succ_lt_succ hi)⟩
    obtain ⟨a, o, tx, ty, n, e, ha, ca, da⟩ := hp.2 0 (Nat.zero_lt_succ _)
    have e : v = .ref a := e
    subst e
    refine ⟨_ :: fs, KatTups.cons ha ca da rfl h1, by rw [List.length_cons, List.length_cons, h2], fun f hf => ?_⟩
    rcases List.mem_cons.mp hf with rfl | hf
    · exact ⟨_, _, rfl⟩
    · exact h3 f hf
end
end FxS
namespace L2
open PySem PySem.Spec PyProof.Rows
section
variable {X : Cx}
end
end L2

set_option genSizeOf false
set_option genInjectivity false
namespace L2
open PySem PySem.Spec PyProof.Rows
section
variable {X : Cx}
end
theorem RowV.mono {H H' : Hp} {xs : List V} {r : List (Int × Int)} (h : RowV H xs r) (hs : ∀ t ws, H t = some (.tup ws) → H' t = some (.tup ws)) : RowV H' xs r := Paired.mapP h fun v p ⟨t, e1, e2⟩ => ⟨t, e1, hs _ _ e2⟩
end L2

set_option genSizeOf false
set_option genInjectivity false
namespace L2
open PySem PySem.Spec PyProof.Rows
section
variable {X : Cx}
theorem pe_weak {e : Expr} {t t' : TE} (h : PE X e t) (w : ∀ σ H Q, t' σ H Q → t σ H Q) : PE X e t' := fun pins s σ H Q I q => h pins s σ H Q I (w σ H Q q)
theorem pa_weak {es : List Expr} {t t' : TA} (h : PA X es t) (w : ∀ σ H Q, t' σ H Q → t σ H Q) : PA X es t' := fun pos pins s σ H Q I q => h pos pins s σ H Q I (w σ H Q q)
noncomputable def NoStar (e : Expr) : Prop := ∀ (es : List Expr) (env : Env), starEach (e :: es) env = (false, eval e env) :: starEach es env
theorem ns_con {v : Const} {k : Nat} {p : Pos} : NoStar (.Constant v k p) := fun _ _ => rfl
theorem ns_un {o : UnaryOp} {e : Expr} {p : Pos} : NoStar (.UnaryOp o e p) := fun _ _ => rfl
theorem ns_tup {l : List Expr} {k : Nat} {p : Pos} : NoStar (.Tuple l k p) := fun _ _ => rfl
theorem ns_lst {l : List Expr} {p : Pos} : NoStar (.List l p) := fun _ _ => rfl
theorem ns_name {x : Str} {p : Pos} : NoStar (.Name x p) := fun _ _ => rfl
inductive NoStars : List Expr → Prop
  | nil : NoStars []
  | cons {e : Expr} {es : List Expr} : NoStar e → NoStars es → NoStars (e :: es)
theorem NoStars.pl {pos : Pos} {env : Env} : ∀ {es : List Expr}, NoStars es → (backTo pos (starEach es env)).any (·.1) = false
  | _, .nil => rfl
  | _, .cons h r => by
    rw [h]
    have := NoStars.pl (pos := pos) (env := env) r
    unfold backTo at this ⊢
    rw [List.map_cons, List.any_cons, this]
    rfl
inductive Lit : Expr → Int → Prop
  | con {i j : Int} {k : Nat} {p : Pos} : j = i → Lit (.Constant (.int i) k p) j
  | neg {i j : Int} {k : Nat} {p p' : Pos} : j = -i → Lit (.UnaryOp .USub (.Constant (.int i) k p) p') j
theorem Lit.ns {e : Expr} {i : Int} (h : Lit e i) : NoStar e := by
  cases h
  · exact ns_con
  · exact ns_un
theorem Lit.pe {e : Expr} {i : Int} (h : Lit e i) : PE X e (tC (.int i)) := by
  cases h with
  | con e => subst e; exact pe_int
  | neg e => subst e; exact pe_weak (pe_un un_neg pe_int) fun σ H Q q => ⟨_, rfl, q⟩
inductive Lits : List Expr → List Int → Prop
  | nil : Lits [] []
  | cons {e : Expr} {es : List Expr} {i : Int} {is : List Int} : Lit e i → Lits es is → Lits (e :: es) (i :: is)
noncomputable def tVals (vs : List V) : TA := fun _ H Q => Q vs H
theorem Lits.pa : ∀ {es : List Expr} {is : List Int}, Lits es is → PA X es (tVals (is.map V.int))
  | _, _, .nil => pa_weak pa_nil fun _ _ _ q => q
  | _, _, .cons h r => pa_weak (pa_cons h.pe r.pa (h.ns _ _)) fun _ _ _ q => q
noncomputable def tNewI (is : List Int) : TE := fun _ H Q => ∀ H' l, Same H H' → H' l = some (.lst (is.map V.int)) → Q (.ref l) H'
theorem Lits.pe {es : List Expr} {is : List Int} {p : Pos} (h : Lits es is) (hl : is.length ≤ sizeLine) : PE X (.List es p) (tNewI is) :=
  pe_weak (pe_lst h.pa) fun σ H Q q => ⟨by rw [List.length_map]; exact hl, fun u n => q _ u (Same.upd n) upd_same⟩
inductive LitP : Expr → Int → Int → Prop
  | mk {a b : Expr} {i j : Int} {k : Nat} {p : Pos} : Lit a i → Lit b j → LitP (.Tuple [a, b] k p) i j
theorem LitP.ns {e : Expr} {i j : Int} (h : LitP e i j) : NoStar e := by
  cases h
  exact ns_tup
noncomputable def tNewP (i j : Int) : TE := fun _ H Q => ∀ H' t, Same H H' → H' t = some (.tup [.int i, .int j]) → Q (.ref t) H'
theorem LitP.pe {e : Expr} {i j : Int} (h : LitP e i j) : PE X e (tNewP i j) := by
  cases h with
  | mk a b => exact pe_weak (pe_tup (Lits.cons a (.cons b .nil)).pa) fun σ H Q q => ⟨(by show 2 ≤ sizeLine; decide), fun u n => q _ u (Same.upd n) upd_same⟩
inductive LitR : List Expr → List (Int × Int) → Prop
  | nil : LitR [] []
  | cons {e : Expr} {es : List Expr} {i j : Int} {r : List (Int × Int)} : LitP e i j → LitR es r → LitR (e :: es) ((i, j) :: r)
theorem LitR.pa : ∀ {es : List Expr} {r : List (Int × Int)}, LitR es r → PA X es (fun _ H Q => ∀ H' xs, Same H H' → RowV H' xs r → Q xs H')
  | _, _, .nil => pa_weak pa_nil fun _ H _ q => q H [] (fun _ _ z => z) .nil
  | _, _, .cons h r => pa_weak (pa_cons h.pe r.pa (h.ns _ _)) fun _ H _ q H1 t s1 e1 H2 xs s2 x2 => q H2 (.ref t :: xs) (s1.trans s2) (.cons ⟨t, rfl, s2 _ _ e1⟩ x2)
noncomputable def tNewR (r : List (Int × Int)) : TE := fun _ H Q => ∀ H' l xs, Same H H' → H' l = some (.lst xs) → RowV H' xs r → Q (.ref l) H'
theorem LitR.pe {es : List Expr} {r : List (Int × Int)} {p : Pos} (h : LitR es r) (hl : r.length ≤ sizeLine) : PE X (.List es p) (tNewR r) :=
  pe_weak (pe_lst h.pa) fun σ H Q q H1 xs s1 x1 => ⟨by rw [x1.length]; exact hl, fun u n => q _ u xs (s1.trans (Same.upd n)) upd_same (RowV.same (Same.upd n) x1)⟩
theorem NoStars.all {pos : Pos} {env : Env} : ∀ {es : List Expr}, NoStars es → (backTo pos (starEach es env)).all (!·.1) = true
  | _, .nil => rfl
  | _, .cons h r => by
    rw [h]
    have := NoStars.all (pos := pos) (env := env) r
    unfold backTo at this ⊢
    rw [List.map_cons, List.all_cons, this]
    rfl
end
end L2

set_option genSizeOf false
set_option genInjectivity false
namespace L2
open PySem PySem.Spec PyProof.Rows
theorem mapFields_dict (f : Array Value → Array Value) (o : Obj) : (o.mapFields f).dict = o.dict := by
  obtain ⟨c, d, dt, sl⟩ := o
  cases dt <;> rfl
noncomputable def ExcAt (h B : Heap) (e : Addr) (cls fl : Value) : Prop := ∃ oe vs T oT ts, h.get? e = some oe ∧ (oe.cls = cls ∧ oe.dict = none) ∧ oe.data = .fields vs ∧ vs[2]? = some .none ∧ vs[1]? = some (.ref T) ∧ B.get? T = none ∧ T ≠ e ∧ h.get? T = some oT ∧ oT.data = .fields ts ∧ ts[3]? = some fl
structure Fly (B : Heap) (l : List Env) (e : Addr) (cls fl : Value) (h : Heap) : Prop where
  st : B.StaysIn h
  new : B.get? e = none
  fr : h.FunFrames B l
  ex : ExcAt h B e cls fl
theorem Fly.tail {B h : Heap} {env : Env} {l : List Env} {e : Addr} {cls fl : Value} (F : Fly B (env :: l) e cls fl h) : Fly B l e cls fl h := ⟨F.st, F.new, F.fr.2.2, F.ex⟩
theorem Fly.at {B h : Heap} {l : List Env} {e : Addr} {cls fl : Value} (F : Fly B l e cls fl h) : ∃ oe vs, h.get? e = some oe ∧ (oe.cls = cls ∧ oe.dict = none) ∧ oe.data = .fields vs ∧ vs[2]? = some .none := by
  obtain ⟨oe, vs, _, _, _, a, b, c, d, _⟩ := F.ex
  exact ⟨oe, vs, a, b, c, d⟩
section
variable {M : Model} {A : Around} {E : Value → Shared → Prop} {s : Shared} {B : Heap} {env : Env} {outer : List Env} {L e : Addr} {cls head : Value} {oe : Obj} {vs : Array Value} {Q : Unit → Shared → Prop}
theorem entry_ok {hn : Bool} (hfr : A.frames = some (env :: outer)) (hf : env.frame = some L) (st : B.StaysIn s.heap) (new : B.get? e = none) (fr : s.heap.FunFrames B (env :: outer))
    (he : s.heap.get? e = some oe) (hc : oe.cls = cls ∧ oe.dict = none) (hd : oe.data = .fields vs) (h2 : vs[2]? = some .none) (q : ∀ h', Fly B (env :: outer) e cls (rawInt L) h' → s.heap.UpToSlots h' → Q () { s with heap := h' }) :
    wpAny M A (do let x ← frameOf env; let y ← entryPlaceOf L hn; let z ← EntryCells.newEntry head x .none (rawInt L) .none y; setField (.ref e) 1 z) Q E s := by
  have ne : e ∉ (env :: outer).filterMap (·.frame) := fun m => by
    obtain ⟨_, o, ho, nf⟩ := fr.mem m
    rw [he] at ho
    cases ho
    exact nf vs hd
  have sz : 2 < vs.size := (Array.getElem?_eq_some_iff.mp h2).1
  refine wpAny_bind (wpAny_frameOf_fun hfr fr hf fun g hs => wpAny_bind (wpAny_entryPlaceOf fun pl hp => ?_))
  unfold EntryCells.newEntry newFields
  refine wpAny_bind (wpAny_newObj_type ?_ (hp.sizeOk5 _ _ _ _ _))
  have eg : g.get? e = some oe := (hs.2.1 e ne).trans he
  have sg : B.StaysIn g := fun b o z => (hs.2.1 b fun m => by rw [(fr.mem m).1] at z; cases z).trans (st b o z)
  generalize hT : ({ cls := Value.type "traceback", dict := none, data := .fields ([head, .ref L, .none, rawInt L, .none] ++ (if pl.isEmpty then List.replicate 6 Value.none else pl)).toArray } : Obj) = oT
  have nT : g.objs.size ≠ e := Nat.ne_of_gt (Heap.lt_size eg)
  have ep := Heap.get?_push_of_some (h := g) oT eg
  refine wpAny_setField ep hd (Nat.lt_trans (by decide) sz) (q _ ?_ ?_)
  all_goals
    have dd := Obj.data_mapFields hd (·.setIfInBounds 1 (Value.ref g.objs.size))
    have kp : ∀ b o, b ≠ e → g.get? b = some o → ((g.push oT).update e (Obj.mapFields (·.setIfInBounds 1 (Value.ref g.objs.size)))).get? b = some o := fun b o n z => by
      rw [Heap.get?_update_other _ _ fun y => n y.symm]
      exact Heap.get?_push_of_some _ z
    have nr : ∀ b o, s.heap.get? b = some o → (∀ ws, o.data ≠ .fields ws) → b ≠ e := fun b o z nf y => by
      rw [y, he] at z
      cases z
      exact nf vs hd
  · refine ⟨fun b o z => kp b o (fun y => by rw [y, new] at z; cases z) (sg b o z), new, fr.of_keeps fun b o z nf => ?_, ?_⟩
    · obtain ⟨sl, y⟩ := hs.2.2 b o z
      exact ⟨_, kp b _ (nr b o z nf) y, rfl⟩
    · refine ⟨_, _, g.objs.size, oT, _, Heap.get?_update_self _ ep (Obj.isFreed_of_fields dd), ⟨by rw [Obj.cls_mapFields]; exact hc.1, by rw [mapFields_dict]; exact hc.2⟩, dd, by rw [Array.getElem?_setIfInBounds_ne (by decide)]; exact h2, ?_, sg.fresh, nT, ?_, by rw [← hT], ?_⟩
      · rw [Array.getElem?_setIfInBounds_self_of_lt (Nat.lt_trans (by decide) sz)]
      · rw [Heap.get?_update_other _ _ nT.symm]
        exact Heap.get?_push_size g (by rw [← hT]; rfl)
      · rw [List.getElem?_toArray, List.getElem?_append_left (by show 3 < 5; decide)]
        rfl
  · intro b o z nf
    obtain ⟨sl, y⟩ := hs.2.2 b o z
    exact ⟨sl, kp b _ (nr b o z nf) y⟩
theorem note_new (hfr : A.frames = some (env :: outer)) (hf : env.frame = some L) (st : B.StaysIn s.heap) (new : B.get? e = none) (fr : s.heap.FunFrames B (env :: outer))
    (he : s.heap.get? e = some oe) (hc : oe.cls = cls ∧ oe.dict = none) (hd : oe.data = .fields vs) (h1 : vs[1]? = some .none) (h2 : vs[2]? = some .none) (q : ∀ h', Fly B (env :: outer) e cls (rawInt L) h' → s.heap.UpToSlots h' → Q () { s with heap := h' }) :
    wpAny M A (noteFrame (.ref e) env) Q E s := by
  unfold noteFrame
  simp only [hf]
  refine wpAny_bind (wpAny_field he hd h1 ?_)
  rw [if_neg (by decide)]
  exact entry_ok hfr hf st new fr he hc hd h2 q
theorem note_on (hfr : A.frames = some (env :: outer)) (hf : env.frame = some L) (F : Fly B (env :: outer) e cls .none s.heap) (q : ∀ h', Fly B (env :: outer) e cls (rawInt L) h' → s.heap.UpToSlots h' → Q () { s with heap := h' }) :
    wpAny M A (noteFrame (.ref e) env) Q E s := by
  obtain ⟨st, new, fr, oe, vs, T, oT, ts, he, hc, hd, h2, h1, bT, nT, hT, dT, h3⟩ := F
  have tz : 3 < ts.size := (Array.getElem?_eq_some_iff.mp h3).1
  unfold noteFrame
  simp only [hf]
  refine wpAny_bind (wpAny_field he hd h1 ?_)
  rw [if_pos (by simp)]
  refine wpAny_bind (wpAny_field hT dT h3 ?_)
  rw [if_neg (by simp [rawInt])]
  refine wpAny_bind (wpAny_setField hT dT tz ?_)
  have ot : ∀ b, b ≠ T → (s.heap.update T (Obj.mapFields (·.setIfInBounds 3 Value.none))).get? b = s.heap.get? b := fun b n => Heap.get?_update_other _ _ fun z => n z.symm
  have nr : ∀ b o, s.heap.get? b = some o → (∀ ws, o.data ≠ .fields ws) → b ≠ T := fun b o z nf y => by
    rw [y, hT] at z
    cases z
    exact nf ts dT
  refine entry_ok hfr hf (fun b o z => (ot b fun y => by rw [y, bT] at z; cases z).trans (st b o z)) new (fr.of_keeps fun b o z nf => ⟨o, (ot b (nr b o z nf)).trans z, rfl⟩) ((ot e nT.symm).trans he) hc hd h2 fun h' F' U => q h' F' fun b o z nf => U b o ((ot b (nr b o z nf)).trans z) nf
theorem land_ok {l : List Env} {fl : Value} (F : Fly B l e cls fl s.heap) (q : ∀ h', Fly B l e cls .none h' → s.heap.UpToSlots h' → Q () { s with heap := h' }) : wpAny M A (setFlight (.ref e) none) Q E s := by
  obtain ⟨st, new, fr, oe, vs, T, oT, ts, he, hc, hd, h2, h1, bT, nT, hT, dT, h3⟩ := F
  have tz : 3 < ts.size := (Array.getElem?_eq_some_iff.mp h3).1
  unfold setFlight
  refine wpAny_bind (wpAny_field he hd h1 ?_)
  rw [if_pos (by simp)]
  have ot : ∀ (f : Obj → Obj) b, b ≠ T → (s.heap.update T f).get? b = s.heap.get? b := fun f b n => Heap.get?_update_other _ _ fun z => n z.symm
  have nr : ∀ b o, s.heap.get? b = some o → (∀ ws, o.data ≠ .fields ws) → b ≠ T := fun b o z nf y => by
    rw [y, hT] at z
    cases z
    exact nf ts dT
  have du := Obj.data_mapFields dT (·.setIfInBounds 3 ((none : Option Addr).elim Value.none fun f => rawInt f))
  refine wpAny_setField hT dT tz (q _ ⟨fun b o z => (ot _ b fun y => by rw [y, bT] at z; cases z).trans (st b o z), new, fr.of_keeps fun b o z nf => ⟨o, (ot _ b (nr b o z nf)).trans z, rfl⟩, oe, vs, T, _, _, (ot _ e nT.symm).trans he, hc, hd, h2, h1, bT, nT, Heap.get?_update_self _ hT (Obj.isFreed_of_fields du), du, ?_⟩ fun b o z nf => ⟨o.slots, (ot _ b (nr b o z nf)).trans z⟩)
  rw [Array.getElem?_setIfInBounds_self_of_lt tz]
  rfl
theorem leave_on (hfr : A.frames = some (env :: outer)) (hf : env.frame = some L) (F : Fly B (env :: outer) e cls .none s.heap) (q : ∀ h', Fly B outer e cls .none h' → s.heap.UpToSlots h' → Q () { s with heap := h' }) :
    wpAny M A (leaving env (.ref e)) Q E s := by
  unfold leaving
  refine wpAny_bind (note_on hfr hf F fun g F1 U1 => land_ok F1 fun h' F2 U2 => q h' F2.tail (U1.trans U2))
theorem leave_new (hfr : A.frames = some (env :: outer)) (hf : env.frame = some L) (st : B.StaysIn s.heap) (new : B.get? e = none) (fr : s.heap.FunFrames B (env :: outer))
    (he : s.heap.get? e = some oe) (hc : oe.cls = cls ∧ oe.dict = none) (hd : oe.data = .fields vs) (h1 : vs[1]? = some .none) (h2 : vs[2]? = some .none) (q : ∀ h', Fly B outer e cls .none h' → s.heap.UpToSlots h' → Q () { s with heap := h' }) :
    wpAny M A (leaving env (.ref e)) Q E s := by
  unfold leaving
  refine wpAny_bind (note_new hfr hf st new fr he hc hd h1 h2 fun g F1 U1 => land_ok F1 fun h' F2 U2 => q h' F2.tail (U1.trans U2))
end
noncomputable def CXE (P : Program) (w : World) : CXT := fun outer H s E e s' => ∃ (x C : Addr) (B : Heap) (H' : Hp), e = .ref x ∧ s'.os = s.os ∧ AllBare s'.gens ∧ Un (frs outer) [] H H' s.heap s'.heap ∧ HOk P w H' s'.heap ∧ s.heap.get? x = none ∧ H' x = none ∧
  Fly B outer x (.ref C) .none s'.heap ∧ (∀ b o, s'.heap.get? b = some o → ((∃ u, s.heap.get? b = some u) ∨ ∃ u, H' b = some u) → b ∉ frs outer → B.get? b = some o) ∧ E (.ref C) (some x) H'
theorem ObjOk.here {P : Program} {w : World} {H : Hp} {h : Heap} {a : Addr} {o : HO} (x : ObjOk P w H h a o) : ∃ u, h.get? a = some u := by
  induction o with
  | lst xs => obtain ⟨_, _, _, _, e⟩ := x; exact ⟨_, e⟩
  | tup xs => obtain ⟨_, _, _, ob, e, _⟩ := x; exact ⟨_, e⟩
  | dK kvs => obtain ⟨_, _, _, _, o, _, _, e, _⟩ := x; exact ⟨_, e⟩
  | dT kvs => obtain ⟨_, _, _, _, o, _, _, e, _⟩ := x; exact ⟨_, e⟩
  | set S n => obtain ⟨o, _, _, _, e, _⟩ := x; exact ⟨_, e⟩
  | ins C dx fs => obtain ⟨_, _, _, e, _⟩ := x; exact ⟨_, e⟩
  | own y => exact x
  | xd fs => obtain ⟨_, ⟨o, _, _, e, _⟩, _⟩ := x; exact ⟨_, e⟩
  | met f y => exact ⟨_, x⟩
  | rng lo hi => obtain ⟨_, _, _, e⟩ := x; exact ⟨_, e⟩
  | frz o u ih => exact ⟨_, x.1⟩
  | tbl ps => exact ⟨_, x⟩
  | ext φ => exact x.2.1
section
variable {X : Cx} {pins : List (Addr × Obj)} {σ : L2.St} {H H' : Hp} {s : Shared} {h1 h2 B : Heap} {x C : Addr}
theorem cxe_end {s2 : Shared} {E : XK} (I : Inv X pins σ H s) (hst : X.stack = X.env :: X.outer) (hf : X.env.frame = some X.env.locals) (hex : X.ex = [])
    (un : Un (frs X.stack) [] H H' s.heap h1) (hok : HOk X.prog X.w H' h1) (hx : s.heap.get? x = none) (hx' : H' x = none)
    (kb : ∀ b o, h1.get? b = some o → ((∃ u, s.heap.get? b = some u) ∨ ∃ u, H' b = some u) → b ∉ frs X.stack → B.get? b = some o)
    (F : Fly B X.outer x (.ref C) .none h2) (U : h1.UpToSlots h2) (e : E (.ref C) (some x) H') (hs : s2.heap = h2) (ho : s2.os = s.os) (hg : AllBare s2.gens) : CXE X.prog X.w X.outer X.H₀ X.s₀ E (.ref x) s2 := by
  subst hs
  have fs : ∀ b, b ∈ frs X.stack ↔ b = X.env.locals ∨ b ∈ frs X.outer := fun b => by
    rw [hst]
    unfold frs
    rw [List.filterMap_cons, hf]
    exact List.mem_cons
  obtain ⟨Lo, hLo⟩ : ∃ o, s.heap.get? X.env.locals = some o := by
    obtain ⟨m, ⟨o, _, _, z, _⟩, _⟩ := I.loc
    exact ⟨o, z⟩
  have hL' : H' X.env.locals = none := un.free _ _ hLo I.free (by simp)
  have old : ∀ b o, X.s₀.heap.get? b = some o → b ≠ X.env.locals := fun b o z y => by
    exact absurd (Nat.lt_of_lt_of_le (Heap.lt_size z) I.ok.above) (by rw [y]; exact Nat.lt_irrefl _)
  have ins : ∀ b o, X.s₀.heap.get? b = some o → ∃ u, s.heap.get? b = some u := fun b o z => I.base.there b o z (by rw [hex]; simp)
  have nex : ∀ b, b ∉ X.ex := fun b => by rw [hex]; simp
  -- what is neither a frame nor the exception's own stays
  have stay : ∀ b o, h1.get? b = some o → ((∃ u, s.heap.get? b = some u) ∨ ∃ u, H' b = some u) → b ∉ frs X.stack → s2.heap.get? b = some o := fun b o z y n => F.st b o (kb b o z y n)
  have frn : ∀ b, b ∈ frs X.outer → H' b = none := fun b m => by
    obtain ⟨_, o, z, _⟩ := I.ok.funs.mem m
    have z1 := I.base.free b o z (I.ok.frf b m) (nex b)
    obtain ⟨o1, z2⟩ := ins b o z
    exact un.free b o1 z2 z1 (by simp)
  have trn : ∀ b u, H' b = some u → b ∉ frs X.stack := fun b u z m => by
    rcases (fs b).mp m with y | y
    · rw [y, hL'] at z; cases z
    · rw [frn b y] at z; cases z
  refine ⟨x, C, B, H', rfl, ho.trans I.os, hg, ⟨fun b o z n m _ => ?_, fun b o z n m _ => ?_, fun b o z n _ => ?_, fun b o z _ => ?_, fun b xs z => un.tups b xs (I.base.tups b xs z), fun b o u z => un.frzs b o u (I.base.frzs b o u z), fun b ps z => ?_⟩, fun a o z => ?_, ?_, hx', F, fun b o z y n => ?_, e⟩
  · have z1 := I.base.keep b o z n m (nex b)
    have nf : b ∉ frs X.stack := fun y => ((fs b).mp y).elim (old b o z) m
    exact stay b o (un.keep b o z1 (I.base.free b o z n (nex b)) nf (by simp)) (.inl ⟨_, z1⟩) nf
  · obtain ⟨sl, z1⟩ := I.base.slot b o z n m (nex b)
    obtain ⟨sl', z2⟩ := un.slot b _ z1 (I.base.free b o z n (nex b)) ((fs b).mpr (.inr m)) (by simp)
    obtain ⟨_, o2, z3, nf⟩ := I.ok.funs.mem m
    rw [z] at z3
    cases z3
    obtain ⟨sl2, z4⟩ := U b _ z2 nf
    exact ⟨sl2, z4⟩
  · obtain ⟨o1, z1⟩ := ins b o z
    exact un.free b o1 z1 (I.base.free b o z n (nex b)) (by simp)
  · by_cases m : b ∈ frs X.outer
    · obtain ⟨_, o2, z3, nf⟩ := I.ok.funs.mem m
      rw [z] at z3
      cases z3
      obtain ⟨sl, z1⟩ := I.base.slot b o z (I.ok.frf b m) m (nex b)
      obtain ⟨sl', z2⟩ := un.slot b _ z1 (I.base.free b o z (I.ok.frf b m) (nex b)) ((fs b).mpr (.inr m)) (by simp)
      obtain ⟨sl2, z4⟩ := U b _ z2 nf
      exact ⟨_, z4⟩
    · obtain ⟨o1, z1⟩ := ins b o z
      obtain ⟨o2, z2⟩ := un.there b o1 z1 (by simp)
      exact ⟨_, stay b o2 z2 (.inl ⟨_, z1⟩) fun y => ((fs b).mp y).elim (old b o z) m⟩
  · obtain ⟨more, z1⟩ := I.base.tbls b ps z
    obtain ⟨more2, z2⟩ := un.tbls b _ z1
    exact ⟨more ++ more2, by rw [z2, Array.append_assoc]⟩
  · refine (hok a o z).stay (fun b u m y => ?_) (fun _ y => y) fun _ _ y => y
    have tr : ∃ u, H' b = some u := by
      rcases m with rfl | m
      · exact ⟨_, z⟩
      · exact ⟨_, m⟩
    exact stay b u y (.inr tr) (trn b _ tr.choose_spec)
  · cases y : X.s₀.heap.get? x with
    | none => rfl
    | some o =>
      obtain ⟨o1, z1⟩ := ins x o y
      rw [hx] at z1
      cases z1
  · have nf : b ∉ frs X.stack := fun m => by
      rcases (fs b).mp m with w | w
      · rcases y with ⟨u, y⟩ | ⟨u, y⟩
        · exact old b u y w
        · exact trn b u y m
      · exact n w
    have y1 : (∃ u, s.heap.get? b = some u) ∨ ∃ u, H' b = some u := y.imp (fun ⟨u, z⟩ => ins b u z) id
    have h1b : ∃ o1, h1.get? b = some o1 := by
      rcases y1 with ⟨u, y⟩ | ⟨u, y⟩
      · exact un.there b u y (by simp)
      · exact (hok b u y).here
    obtain ⟨o1, z1⟩ := h1b
    have := stay b o1 z1 y1 nf
    rw [z] at this
    cases this
    exact kb b o z1 y1 nf
theorem passE {E : XK} (hst : X.stack = X.env :: X.outer) (hf : X.env.frame = some X.env.locals) (hex : X.ex = [])
    (hxe : X.xe = fun e s' => wpAny (model X.prog X.w) X.A (leaving X.env e) (fun _ s'' => CXE X.prog X.w X.outer X.H₀ X.s₀ E e s'') (fun e' s'' => CXE X.prog X.w X.outer X.H₀ X.s₀ E e' s'') s') : Passes (CXE X.prog X.w) X E := by
  intro pins σ H s e s' I h
  obtain ⟨x, C, B, H', rfl, ho, hg, un, hok, hx, hx', F, kb, q⟩ := h
  rw [hxe]
  have hfr := I.ok.frames
  rw [hst] at hfr F
  refine leave_on hfr hf F fun h' F' U => ?_
  exact cxe_end I hst hf hex un hok hx hx' kb F' U q rfl ho hg
theorem madeE {E : XK} {vs : List Value} (hst : X.stack = X.env :: X.outer) (hf : X.env.frame = some X.env.locals) (hex : X.ex = [])
    (hxe : X.xe = fun e s' => wpAny (model X.prog X.w) X.A (leaving X.env e) (fun _ s'' => CXE X.prog X.w X.outer X.H₀ X.s₀ E e s'') (fun e' s'' => CXE X.prog X.w X.outer X.H₀ X.s₀ E e' s'') s') (I : Inv X pins σ H s)
    (m : Heap.MadeExcOf s.heap h1 x (.ref C) vs) (q : E (.ref C) (some x) H) : X.xe (.ref x) { s with heap := h1 } := by
  rw [hxe]
  have hfr := I.ok.frames
  have fu := I.stack
  obtain ⟨t, he, _, _⟩ := m.there
  have hxn : H x = none := by
    cases y : H x with
    | none => rfl
    | some u =>
      obtain ⟨o, z⟩ := (I.hok x u y).here
      rw [m.new] at z
      cases z
  have st : (PySem.W.hideAll s.heap (frs X.stack)).StaysIn s.heap := fun b o z => PySem.W.of_hideAll _ z
  have fh : s.heap.FunFrames (PySem.W.hideAll s.heap (frs X.stack)) X.stack := PySem.W.funFrames_hide fu fun env he b hb => List.mem_filterMap.mpr ⟨env, he, hb⟩
  have nw : (PySem.W.hideAll s.heap (frs X.stack)).get? x = none := by
    cases y : (PySem.W.hideAll s.heap (frs X.stack)).get? x with
    | none => rfl
    | some o => have := st x o y; rw [m.new] at this; cases this
  have f1 : h1.FunFrames (PySem.W.hideAll s.heap (frs X.stack)) (X.env :: X.outer) := by
    rw [← hst]
    exact fh.of_keeps fun b o z _ => ⟨o, m.keeps b o z, rfl⟩
  have fr2 : X.A.frames = some (X.env :: X.outer) := by rw [← hst]; exact hfr
  refine leave_new (B := PySem.W.hideAll s.heap (frs X.stack)) (s := { s with heap := h1 }) fr2 hf (fun b o z => m.keeps b o (st b o z)) nw f1 he ⟨rfl, rfl⟩ rfl rfl rfl fun h' F' U => ?_
  refine cxe_end I hst hf hex (Un.kept m.keeps) (I.hok.kept m.keeps) m.new hxn (fun b o z y n => ?_) F' U q rfl rfl I.bare
  have z1 : ∃ u, s.heap.get? b = some u := by
    rcases y with y | ⟨u, y⟩
    · exact y
    · exact (I.hok b u y).here
  obtain ⟨u, z1⟩ := z1
  have := m.keeps b u z1
  rw [z] at this
  cases this
  exact PySem.W.hideAll_get _ z1 n
end
end L2

set_option genSizeOf false
set_option genInjectivity false
namespace L2
open PySem PySem.Spec PyProof.Rows
noncomputable def ExcO (x C : Addr) : HO := .ext fun h => ∃ oe vs, h.get? x = some oe ∧ (oe.cls = .ref C ∧ oe.dict = none) ∧ oe.data = .fields vs ∧ vs[2]? = some .none
structure ExcK (K : PySem.W.Frag) (C : Addr) : Prop where
  is : PySem.W.excIn K C [.type "ValueError", .type "Exception", .type "BaseException", .type "object"] "ValueError.__new__" = true
  cl : (PySem.W.clsIn K C).isSome = true
  ga : PySem.W.findIn K (.ref C) "__getattribute__" = some (some (.builtin "BaseException.__getattribute__"))
  gr : PySem.W.findIn K (.ref C) "__getattr__" = some none
  bs : PySem.W.mroIn K C (.type "BaseException") = some true
  ca : PySem.W.findIn K (.ref C) "__class__" = some (some (.builtin "object.__class__"))
  gt : PySem.W.specialIn K (.builtin "object.__class__") "__get__" = some (some (.builtin "getset_descriptor.__get__"))
  tk : PySem.W.takesIn K (.builtin "object.__class__") = some true
  ob : PySem.W.mroIn K C (.type "object") = some true
noncomputable def ExcIn (x C : Addr) (h : Heap) : Prop := ∃ oe vs, h.get? x = some oe ∧ (oe.cls = .ref C ∧ oe.dict = none) ∧ oe.data = .fields vs ∧ vs[2]? = some .none
theorem ExcIn.inst {x C : Addr} {h : Heap} (e : ExcIn x C h) : ∃ ox, PySem.W.InstAt h x ox C none := by
  obtain ⟨oe, vs, h1, ⟨h2, h3⟩, h4, _⟩ := e
  refine ⟨oe, h1, h2, ?_, ?_⟩
  · obtain ⟨c, d, dt, sl⟩ := oe
    cases (show dt = _ from h4)
    rfl
  · rw [h3]
    trivial
theorem findObj_none {K : PySem.W.Frag} {C : Addr} {name : Str} {a g : Value} (hc : (PySem.W.clsIn K C).isSome = true) (ha : PySem.W.findIn K (.ref C) name = some (some a)) (hg : PySem.W.specialIn K a "__get__" = some (some g)) (ht : PySem.W.takesIn K a = some true) : PySem.W.findObj K C none name = some (.bind g a) := by
  obtain ⟨cd, hc⟩ := Option.isSome_iff_exists.mp hc
  unfold PySem.W.findObj
  rw [hc, Option.bind_some, ha, Option.bind_some]
  simp [hg, ht]
section
variable {prog : Program} {w : World} {A : Around} {E : Value → Shared → Prop} {s : Shared} {K : PySem.W.Frag} {x C : Addr} {ox : Obj}
theorem exc_check {M : Model} {nameV : Value} {Q : Unit → Shared → Prop} (X : K.In s.heap) (I : PySem.W.InstAt s.heap x ox C none) (hb : PySem.W.mroIn K C (.type "BaseException") = some true) (hq : Q () s) : wpAny M A (checkBuiltinCall "BaseException.__getattribute__" ⟨[.ref x, nameV], []⟩) Q E s := by
  obtain ⟨h, g, d, t, os⟩ := s
  have hk : builtinKind "BaseException.__getattribute__" = some .slot := by decide +kernel
  have hsplit : splitId "BaseException.__getattribute__" = some ("BaseException", "__getattribute__") := by decide +kernel
  have ha := F.args_bexc_ga (.ref x) nameV
  have L0 := I.type (M := M)
  have L1 := PySem.W.looks_mroIn (M := M) X hb
  simp only [checkBuiltinCall, hk, hsplit]
  refine wpAny_bind ?_
  unfold isInstance
  refine wpAny_bind (L0.at (L1.at ?_))
  repeat (first | assumption | wp_step)
theorem exc_class {name : Str} {gv a : Value} {Q : Option Value → Shared → Prop} (X : K.In s.heap) (I : PySem.W.InstAt s.heap x ox C none) (hga : PySem.W.findIn K (.ref C) "__getattribute__" = some (some (.builtin "BaseException.__getattribute__")))
    (hgr : PySem.W.findIn K (.ref C) "__getattr__" = some none) (hb : PySem.W.mroIn K C (.type "BaseException") = some true) (hf : PySem.W.findObj K C none name = some (.bind gv a))
    (h : wpAny (model prog w) A.in1 (call gv [a, .ref x, .ref C]) (fun v s' => wpAny (model prog w) A (handedOut v) (fun v s'' => Q (some v) s'') (fun _ _ => False) s') (fun _ _ => False) { s with toks := s.toks + 1 }) : wpAny (model prog w) A (getAttr? (.ref x) name) Q E s := by
  obtain ⟨hh, g, d, t, os⟩ := s
  have L0 := I.type (M := model prog w)
  have L1 := PySem.W.looks_findIn (M := model prog w) X hga
  have L2 := PySem.W.looks_findIn (M := model prog w) X hgr
  have L3 := PySem.W.looks_find (M := model prog w) X I hf
  have f0 := F.attr_ValueError.ga
  unfold getAttr? getAttrBy? getAttrBy
  refine wpAny_bind (wpAny_mkText (wpAny_bind (wpAny_attempt (wpAny_holding (wpAny_bind (L0.at (wpAny_bind (L1.at ?_))))))))
  show wpAny _ _ (getAttrByItsOwn (.ref x) (.str name t) (.ref C) (.builtin "BaseException.__getattribute__") false false) _ _ _
  unfold getAttrByItsOwn hookBefore callGetattribute boundAndCalled
  refine wpAny_bind ?_
  show wpAny _ _ (typeLookup (.ref C) "__getattr__") _ _ _
  refine L2.at (wpAny_bind (wpAny_attempt (wpAny_holding ?_)))
  show wpAny _ _ (bindSpecial (.builtin "BaseException.__getattribute__") (.ref x) >>= _) _ _ _
  refine wpAny_bind (wpAny_of_eq (f0.bind _) ?_)
  refine wpAny_mono (Q := fun v s' => wpAny (model prog w) A (handedOut v) (fun v s'' => Q (some v) s'') (fun _ _ => False) s') (E := fun _ _ => False) (wpAny_call (codeAny_call_builtin f0.plain F.entry_bexc_ga (exc_check (s := ⟨hh, g, d, t + 1, os⟩) X I hb ?_))) (fun v s' hv => ?_) fun _ _ z => z.elim
  · unfold Builtin.«object.__getattribute__»
    refine wpAny_bind (wpAny_pure (wpAny_bind (wpAny_pure (wpAny_bind (L0.at (wpAny_bind (L3.at ?_)))))))
    show wpAny _ _ (holding [a] (call gv [a, .ref x, .ref C]) >>= ret) _ _ _
    exact wpAny_bind (wpAny_holding (wpAny_mono h (fun v s' z => wpAny_pure z) fun _ _ z => z.elim))
  · exact wpAny_mono hv (fun v s'' hv => wpAny_pure hv) (fun _ _ z => z.elim)
end
theorem kitx_exc {K : PySem.W.Frag} {x C : Addr} (k : ExcK K C) : PySem.W.KitX K (.ref x) (.ref C) (ExcIn x C) where
  ty := fun _ _ _ e => by
    obtain ⟨ox, I⟩ := e.inst
    exact I.type
  it := fun _ _ X _ => by
    obtain ⟨cd, hc⟩ := Option.isSome_iff_exists.mp k.cl
    unfold PySem.W.clsIn at hc
    split at hc
    · rename_i ho
      intro A Q E s kp q
      unfold isType loadHead
      exact wpAny_bind (wpAny_loadPart (kp _ _ (X _ _ ho)) (wpAny_pure q))
    · cases hc
  ne := fun h tp dd its n sl X ht => by
    obtain ⟨cd, hc⟩ := Option.isSome_iff_exists.mp k.cl
    refine Bool.eq_false_iff.mpr fun q => ?_
    obtain rfl : C = tp := Value.ref.inj (beq_iff_eq.mp q)
    unfold PySem.W.clsIn at hc
    split at hc
    · rename_i ho
      have := (X _ _ ho).symm.trans ht
      cases this
    · cases hc
  ca := fun {prog w A E Q s} X e q => by
    obtain ⟨ox, I⟩ := e.inst
    have I2 : PySem.W.InstAt ({ s with toks := s.toks + 1 } : Shared).heap x ox C none := I
    have X2 : K.In ({ s with toks := s.toks + 1 } : Shared).heap := X
    exact exc_class X I k.ga k.gr k.bs (findObj_none k.cl k.ca k.gt k.tk) (wpAny_call (PySem.W.class_get (s := { s with toks := s.toks + 1 }) X2 I2 k.ob (PySem.W.handed_on rfl q)))
section
variable {X : Cx}
theorem exc_in {pins : List (Addr × Obj)} {σ : L2.St} {H : Hp} {s : Shared} {x C : Addr} (I : Inv X pins σ H s) (h : H x = some (ExcO x C)) : ExcIn x C s.heap := (show ObjOk X.prog X.w H s.heap x (ExcO x C) from I.hok x _ h).1
theorem call_isiX (K : PySem.W.Frag) (hK : X.K = K) : CallR X (.builtin "isinstance") (fun xs H Q => ∃ x C D b, xs = [.ref x, .ref D] ∧ H x = some (ExcO x C) ∧ ExcK K C ∧ PySem.W.kitOne K (.ref C) (.ref D) = some b ∧ Q (.bl b) H) := by
  subst hK
  intro pins s σ H xs us Q I r h
  obtain ⟨x, C, D, b, rfl, hx, k, e, q⟩ := h
  obtain ⟨u, c, rfl, rx, rc⟩ := vals2 r
  cases (show c = Value.ref D from rc)
  cases (show u = Value.ref x from rx)
  exact PySem.W.kia_one (kitx_exc k) I.kIn (exc_in I hx) e (fun z => nomatch z) fun tk => ⟨.bl b, H, I.tok tk, rfl, q⟩
theorem call_isiXT (K : PySem.W.Frag) (hK : X.K = K) : CallR X (.builtin "isinstance") (fun xs H Q => ∃ x C T b, xs = [.ref x, .ty T] ∧ H x = some (ExcO x C) ∧ ExcK K C ∧ PySem.W.kitOne K (.ref C) (.type T) = some b ∧ Q (.bl b) H) := by
  subst hK
  intro pins s σ H xs us Q I r h
  obtain ⟨x, C, T, b, rfl, hx, k, e, q⟩ := h
  obtain ⟨u, c, rfl, rx, rc⟩ := vals2 r
  cases (show c = Value.type T from rc)
  cases (show u = Value.ref x from rx)
  exact PySem.W.kia_one (kitx_exc k) I.kIn (exc_in I hx) e (fun z => nomatch z) fun tk => ⟨.bl b, H, I.tok tk, rfl, q⟩
end
end L2

set_option genSizeOf false
set_option genInjectivity false
namespace L2
open PySem PySem.Spec PyProof.Rows
noncomputable abbrev bmV : List Value := [.type "ValueError", .type "Exception", .type "BaseException", .type "object"]
structure RX (X : Cx) (E : XK) : Prop where
  st : X.stack = X.env :: X.outer
  fr : X.env.frame = some X.env.locals
  ex : X.ex = []
  xe : X.xe = fun e s' => wpAny (model X.prog X.w) X.A (leaving X.env e) (fun _ s'' => CXE X.prog X.w X.outer X.H₀ X.s₀ E e s'') (fun e' s'' => CXE X.prog X.w X.outer X.H₀ X.s₀ E e' s'') s'
theorem exc_obj {K : PySem.W.Frag} {h : Heap} {C : Addr} (X : K.In h) (q : PySem.W.excIn K C bmV "ValueError.__new__" = true) :
    ∃ bm N nm qn bs hdct sn sub ab col dd k0 k1 k2 k3 k5 mN, h.get? C = some (excClassObj nm qn C N bs bm hdct sn sub ab col dd k0 k1 k2 k3 k5 "ValueError.__new__") ∧ h.Ns N mN ∧ mN "__init__" = none ∧ OwnTail h bmV bm := by
  unfold PySem.W.excIn at q
  split at q
  · rename_i dd cd sl ho
    split at q
    · rename_i C' bm k0 k1 k2 k3 n k5 hm hs
      simp only [Bool.and_eq_true, beq_iff_eq, Bool.not_eq_true'] at q
      obtain ⟨⟨⟨⟨⟨c1, c2⟩, c3⟩, c4⟩, c5⟩, c6⟩ := q
      subst c1 c2
      obtain ⟨nm, bs, mro, ns, qn, hd, sn, sub, ab, col, del⟩ := cd
      dsimp only at hm c3 c5 c6
      subst hm c3
      obtain ⟨l⟩ := sl
      cases (show l = _ from hs)
      exact ⟨bm, ns, nm, qn, bs, hd, sn, sub, ab, col, dd, k0, k1, k2, k3, k5, _, X _ _ ho, .of_isNs (PySem.W.isNs_of_in X c5), PySem.W.nsMap_none_of_in X c5 c6, PySem.W.tail_of_in X c4⟩
    · cases q
  · cases q
noncomputable def tRaise (C : Addr) (E : XK) (t : TA) : TS := fun _ σ H => t σ H fun vs H1 => vs.length ≤ sizeLine ∧ ∀ x, H1 x = none → E (.ref C) (some x) H1
section
variable {X : Cx} {E : XK}
theorem ps_raiseE {x : Str} {C : Addr} {e : Expr} {es : List Expr} {t : TA} {np cpos pos : Pos} (R : RX X E) (hm : X.mg x = some (.ref C)) (k : ExcK X.K C) (hg : Gl X x) (hh : X.A.handled = none) (ha : PA X (e :: es) t)
    (hdb : (x == ("__debug__" : Str)) = false := by decide +kernel) (he : starEach (e :: es) X.env = (false, eval e X.env) :: starEach es X.env := by rfl) (hpl : (backTo cpos (starEach es X.env)).any (·.1) = false := by rfl) :
    PS X (.Raise (some (.Call (.Name x np) (e :: es) [] cpos)) none pos) (tRaise C E t) := by
  intro pins s σ H D I h
  obtain ⟨bm, N, nm, qn, bs, hdct, sn, sub, ab, col, dd, k0, k1, k2, k3, k5, mN, hC, hN, hni, T⟩ := exc_obj I.mod.kin k.is
  refine wpAny_Raise_call_subT (C := C) (nm := nm) (q := qn) (N := N) (bs := bs) (bm := bm) (hdct := hdct) (sn := sn) (sub := sub) (ab := ab) (col := col) (dd := dd) (k0 := k0) (k1 := k1) (k2 := k2) (k3 := k3) (k5 := k5) PySem.F.excBase_ValueError (mN := mN)
    (T.hasType (X := "BaseException") (b := true) (by decide)) hh (by rw [he]; show (false || (backTo cpos (starEach es X.env)).any (·.1)) = false; rw [hpl]; rfl) hni (ld_glob I hg hm ⟨rfl, ?_⟩ hdb)
  have z := ha cpos pins s σ H _ I h
  rw [he] at z ⊢
  refine Calls.evalArgs_plain (thn z fun us s1 ⟨vs, H1, I1, r, hl, q⟩ => ⟨rfl, by rw [← r.length]; exact hl, I1.bk _ _ hC, hN.keeps I1.bk, T.keeps I1.bk, fun h' x' m => ?_⟩)
  refine madeE R.st R.fr R.ex R.xe I1 m (q _ ?_)
  cases y : H1 x' with
  | none => rfl
  | some u =>
    obtain ⟨o, w⟩ := (I1.hok x' u y).here
    rw [m.new] at w
    cases w
end
noncomputable def DfnE (P : Program) (w : World) (K : PySem.W.Frag) (mg : Str → Option Value) (base : Heap) (x : Str) (k : Nat) (ps : List Str) (sp : Sp) : Prop :=
  ∃ (f : Addr) (fd : FuncData), mg x = some (.ref f) ∧ PySem.W.keepIn K (.ref f) = true ∧ Binds K fd ps [] ∧ FnOk P w K mg base (CXE P w) k f fd ps sp
theorem FnOk.toE {P : Program} {w : World} {K : PySem.W.Frag} {mg : Str → Option Value} {base : Heap} {k : Nat} {f : Addr} {fd : FuncData} {ps : List Str} {sp : Sp} (F : FnOk P w K mg base CX0 k f fd ps sp) : FnOk P w K mg base (CXE P w) k f fd ps sp :=
  ⟨F.len, fun A outer s H args us vs Q E hr he hb r hs => codeAny_mono (F.run A outer s H args us vs Q E hr he hb r hs) fun r s' q => by
    cases r with
    | error e => exact q.elim
    | ok f => cases f <;> exact q⟩
section
variable {X : Cx} {E : XK}
theorem pe_callE {k : Nat} {x : Str} {ps : List Str} {sp : Sp} {p pos : Pos} {e : Expr} {es : List Expr} {t : TA} (D : DfnE X.prog X.w X.K X.mg X.base x k ps sp) (R : RX X E) (hr : Room k X.A) (hg : Gl X x) (ha : PA X (e :: es) t)
    (hdb : (x == ("__debug__" : Str)) = false := by decide +kernel) (he : starEach (e :: es) X.env = (false, eval e X.env) :: starEach es X.env := by rfl) (hpl : (backTo pos (starEach es X.env)).any (·.1) = false := by rfl) :
    PE X (.Call (.Name x p) (e :: es) [] pos) (tCall sp [] E t) := by
  obtain ⟨f, fd, hm, hk, hb, F⟩ := D
  exact pe_call F hr hg hm hk hb .nil (passE R.st R.fr R.ex R.xe) ha hdb he hpl
theorem pss_any {ss : List Stmt} : PSs X ss (fun _ _ _ => False) := fun _ _ _ _ _ _ h => h.elim
end
section
variable {P : Program} {w : World} {K : PySem.W.Frag} {mg : Str → Option Value} {base : Heap}
theorem Fun.okE {x qual : Str} {st : Stmt} {f : Addr} {fd : FuncData} {N ps : List Str} {k : Nat} {sp : Sp} (F : Fun K x qual st f fd) (S : FnScope N ps (defScope st)) (len : ∀ vs H Q E, sp vs H Q E → vs.length = ps.length)
    (hbody : ∀ (cdv : Value) (A : Around) (outer : List Env) (s : Shared) (H : Hp) (vs : List V) (Q : VK) (E : XK), Room k (A.deeper (envOfC qual (defScope st) s.heap.objs.size f cdv)) → RX (cxOf (CXE P w) P w K mg base N qual (defScope st) f cdv A outer s H E) E → sp vs H Q E →
      ∃ t, PSs (cxOf (CXE P w) P w K mg base N qual (defScope st) f cdv A outer s H E) (defBody st) t ∧ t { nx := fun _ H' => Q .non H', rt := Q } (start N vs) H) : FnOk P w K mg base (CXE P w) (k + 1) f fd ps sp := by
  obtain ⟨oc, od, kV, doc, pm, an, cdv, ct, osl, rfl, lk, hcd⟩ := F.ex
  exact fn_of lk hcd S len fun A outer s H vs Q E hr hsp => hbody cdv A outer s H vs Q E hr ⟨rfl, rfl, rfl, rfl⟩ hsp
end
end L2

set_option genSizeOf false
set_option genInjectivity false
namespace L2
open PySem PySem.Spec PyProof.Rows
noncomputable def Xh (X : Cx) (x : Addr) : Cx := { X with A := X.A.mark (some (.ref x)), calm := false, xe := fun _ _ => False }
section
variable {X : Cx} {pins : List (Addr × Obj)} {σ : L2.St} {H H' : Hp} {s : Shared} {h1 h2 B : Heap} {x C : Addr}
theorem Inv.toH (I : Inv X pins σ H s) : Inv (Xh X x) pins σ H s :=
  ⟨⟨I.ok.mod, I.ok.kind, I.ok.glob, I.ok.blt, I.ok.above, I.ok.inj, I.ok.has, I.ok.cab, (fun z => nomatch z), I.ok.frames, I.ok.stk, I.ok.exf, I.ok.bs, I.ok.bsz, I.ok.noex, I.ok.exfs, I.ok.funs, I.ok.frf⟩, I.os, I.bare, I.base, I.loc, I.cell, I.free, I.freeC, I.pin, I.hok, I.len⟩
theorem catch_inv {s2 : Shared} {fl : Value} (I : Inv X pins σ H s) (un : Un (frs X.stack) [] H H' s.heap h1) (hok : HOk X.prog X.w H' h1) (hx : s.heap.get? x = none) (hx' : H' x = none)
    (kb : ∀ b o, h1.get? b = some o → ((∃ u, s.heap.get? b = some u) ∨ ∃ u, H' b = some u) → b ∉ frs X.stack → B.get? b = some o)
    (F : Fly B X.stack x (.ref C) fl h2) (U : h1.UpToSlots h2) (hs : s2.heap = h2) (ho : s2.os = s.os) (hg : AllBare s2.gens) : Inv X pins σ (upd H' x (ExcO x C)) s2 := by
  subst hs
  have stay : ∀ b o, h1.get? b = some o → ((∃ u, s.heap.get? b = some u) ∨ ∃ u, H' b = some u) → b ∉ frs X.stack → s2.heap.get? b = some o := fun b o z y n => F.st b o (kb b o z y n)
  have nf : ∀ b, b ∈ frs X.stack → ∃ o, s.heap.get? b = some o ∧ (∀ vs, o.data ≠ .fields vs) ∧ H b = none ∧ H' b = none := fun b m => by
    obtain ⟨_, o, z, n⟩ := I.stack.mem m
    exact ⟨o, z, n, I.stkFree b m, un.free b o z (I.stkFree b m) (by simp)⟩
  have nx : ∀ b o, s.heap.get? b = some o → b ≠ x := fun b o z y => by rw [y, hx] at z; cases z
  have ex := F.at
  refine I.call' (ch := []) ho ⟨fun b o z n m _ => ?_, fun b o z n m _ => ?_, fun b o z n _ => ?_, fun b o z _ => ?_, fun b xs z => ?_, fun b o u z => ?_, fun b ps z => ?_⟩ (fun a o z => ?_) hg (fun b m => absurd m (by simp))
  · exact stay b o (un.keep b o z n m (by simp)) (.inl ⟨_, z⟩) m
  · obtain ⟨sl, z1⟩ := un.slot b o z n m (by simp)
    obtain ⟨o2, z2, nf, _⟩ := nf b m
    rw [z] at z2
    cases z2
    obtain ⟨sl2, z3⟩ := U b _ z1 nf
    exact ⟨sl2, z3⟩
  · rw [upd_ne (nx b o z)]
    exact un.free b o z n (by simp)
  · by_cases m : b ∈ frs X.stack
    · obtain ⟨o2, z2, nf, hn, _⟩ := nf b m
      obtain ⟨sl, z1⟩ := un.slot b o2 z2 hn m (by simp)
      obtain ⟨sl2, z3⟩ := U b _ z1 nf
      exact ⟨_, z3⟩
    · obtain ⟨o2, z2⟩ := un.there b o z (by simp)
      exact ⟨o2, stay b o2 z2 (.inl ⟨_, z⟩) m⟩
  · have z1 := un.tups b xs z
    rw [upd_ne (ne_of_none z1 hx')]
    exact z1
  · have z1 := un.frzs b o u z
    rw [upd_ne (ne_of_none z1 hx')]
    exact z1
  · obtain ⟨more, z1⟩ := un.tbls b ps z
    exact ⟨more, by rw [upd_ne (ne_of_none z1 hx')]; exact z1⟩
  · by_cases e : a = x
    · subst e
      rw [upd_same] at z
      cases z
      obtain ⟨oe, vs, e1, e2⟩ := ex
      refine ⟨⟨oe, vs, e1, e2⟩, ⟨oe, e1⟩, fun g1 g2 ⟨o, ws, w1, w2⟩ k => ⟨o, ws, k o w1, w2⟩⟩
    · rw [upd_ne e] at z
      refine (hok a o z).stay (fun b u m y => ?_) (fun b y => by rw [upd_ne (ne_of_none y hx')]; exact y) fun b xs y => by rw [upd_ne (ne_of_none y hx')]; exact y
      have tr : ∃ u, H' b = some u := by
        rcases m with rfl | m
        · exact ⟨_, z⟩
        · exact ⟨_, m⟩
      exact stay b u y (.inr tr) fun m => by
        obtain ⟨_, _, _, _, hn⟩ := nf b m
        obtain ⟨u, tr⟩ := tr
        rw [hn] at tr
        cases tr
theorem gone_ok {M : Model} {A : Around} {E : Value → Shared → Prop} {n : Str} {pos : Pos} {Q : Unit → Shared → Prop} (I : Inv X pins σ H s) (hl : X.env.scope.names.lookup n = some .local)
    (q : ∀ s', Inv X pins (List.replicate X.N.length none) H s' → Q () s') : wpAny M A (do bindName X.env n .none; unbindBehindTheSuite X.env n pos) Q E s := by
  obtain ⟨m, hn, _⟩ := id I.loc
  obtain ⟨oL, _, _, hoL, _⟩ := id hn
  refine wpAny_nameGoes hl hn (by rw [I.ok.kind]; rfl) fun h' m' hn' hs => q _ ?_
  have ab : ∀ b o, X.s₀.heap.get? b = some o → b ≠ X.env.locals := fun b o e => Nat.ne_of_lt (Nat.lt_of_lt_of_le (Heap.lt_size e) I.ok.above)
  refine ⟨I.ok, I.os, I.bare, ⟨fun b o e n hb hx => ?_, fun b o e n hb hx => ?_, I.base.free, fun b o e hx => ?_, I.base.tups, I.base.frzs, I.base.tbls⟩, ⟨m', hn', fun j y v e1 e2 e3 => ?_⟩, fun y c e => ?_, I.free, I.freeC, fun p hp => ?_, fun a o e => ?_, List.length_replicate⟩
  · exact (hs.2 b (ab b o e)).trans (I.base.keep b o e n hb hx)
  · obtain ⟨sl, e1⟩ := I.base.slot b o e n hb hx
    exact ⟨sl, (hs.2 b (ab b o e)).trans e1⟩
  · obtain ⟨o', e1⟩ := I.base.there b o e hx
    exact ⟨o', (hs.2 b (ab b o e)).trans e1⟩
  · rw [List.getElem?_replicate] at e2
    split at e2 <;> cases e2
  · obtain ⟨v, o, ho, hd⟩ := I.cell y c e
    exact ⟨v, o, (hs.2 c (I.cne y c e)).trans ho, hd⟩
  · obtain ⟨p1, p2, p3, p4⟩ := I.pin p hp
    exact ⟨(hs.2 _ p3).trans p1, p2, p3, p4⟩
  · refine (I.hok a o e).stay (fun c u hc y => (hs.2 c ?_).trans y) (fun _ y => y) fun _ _ y => y
    rintro rfl
    rcases hc with rfl | hc
    · rw [I.free] at e; cases e
    · rw [I.free] at hc; cases hc
noncomputable def tTry (K : PySem.W.Frag) (HC : Addr) (i : Nat) (sp : Sp) (t : TA) (th : Addr → TS) : TS := fun D σ H => t σ H fun vs H1 => ∃ E : XK, sp (vs ++ []) H1 (fun _ _ => False) E ∧
  ∀ C x H', E (.ref C) (some x) H' → H' x = none → PySem.W.exmOne K (.ref C) (.ref HC) = some true ∧ th x { nx := fun _ _ => False, rt := D.rt } (σ.set i (some (.ref x))) (upd H' x (ExcO x C))
theorem ps_tryE {f hn n : Str} {HC : Addr} {i k : Nat} {ps : List Str} {sp : Sp} {t : TA} {th : Addr → TS} {e : Expr} {es : List Expr} {b0 : Stmt} {bs : List Stmt} {p cp ep np hp tp : Pos} (D0 : DfnE X.prog X.w X.K X.mg X.base f k ps sp) (hr : Room k X.A) (hg : Gl X f) (ha : PA X (e :: es) t)
    (hst : X.stack = X.env :: X.outer) (hfr : X.env.frame = some X.env.locals) (hxe : X.xe = fun _ _ => False) (hH : X.mg hn = some (.ref HC)) (gH : Gl X hn) (hN : X.N.Nodup) (hi : X.N[i]? = some n) (hl : X.env.scope.names.lookup n = some .local)
    (suite : ∀ x : Addr, PSs (Xh X x) (b0 :: bs) (th x)) (hdb : (f == ("__debug__" : Str)) = false := by decide +kernel) (hdh : (hn == ("__debug__" : Str)) = false := by decide +kernel) (he : starEach (e :: es) X.env = (false, eval e X.env) :: starEach es X.env := by rfl) (hpl : (backTo cp (starEach es X.env)).any (·.1) = false := by rfl)
    (hsw : swapsWith (.Call (.Name f p) (e :: es) [] cp) none ep.line X.env = pure false := by rfl) :
    PS X (.Try [.Expr (.Call (.Name f p) (e :: es) [] cp) ep] [.ExceptHandler (some (.Name hn np)) (some n) (b0 :: bs) hp] [] [] tp) (tTry X.K HC i sp t th) := by
  intro pins s σ H D I h
  obtain ⟨fa, fd, hm, hk, hb, F⟩ := D0
  refine wpAny_Try_except (wpAny_execs_cons (wpAny_Expr_any (wpAny_Call_Name_kw (ld_glob I hg hm ?_ hdb)) I.quiet hsw))
  refine PySem.W.callWith_K (h₀ := X.base) I.ok.mod.kin hk (wpAny_mono (ha cp pins s σ H _ I h) (fun us s1 ⟨vs, H1, I1, r, q⟩ => ⟨I1.kIn, ?_⟩) (fun e s' z => by rw [hxe] at z; exact z.elim)) he hpl
  obtain ⟨E, q1, q2⟩ := q
  have r2 : Vals (vs ++ []) (us ++ []) := r.append .nil
  have hlen : (us ++ []).length = ps.length := by rw [← r2.length]; exact F.len _ _ _ _ q1
  refine wpAny_call (codeAny_mono (F.run X.A X.stack s1 H1 ⟨us, []⟩ (us ++ []) (vs ++ []) _ E hr I1.env0 (hb s1 us I1.kIn hlen) r2 q1) fun res s' hq => ?_)
  cases res with
  | ok fl =>
    cases fl with
    | ret u => obtain ⟨_, _, _, _, _, _, _, z⟩ := hq; exact z.elim
    | next => exact False.elim hq
    | brk => exact False.elim hq
    | cont => exact False.elim hq
  | error ev =>
    obtain ⟨x, C, B, H', rfl, ho, hgn, un, hok, hx, hx', F1, kb, q⟩ := hq
    obtain ⟨hex, qth⟩ := q2 C x H' q hx'
    have hfra : X.A.frames = some (X.env :: X.outer) := by rw [← hst]; exact I.ok.frames
    have F1' := F1
    rw [hst] at F1'
    refine note_on hfra hfr F1' fun g1 G1 U1 => land_ok G1 fun g2 G2 U2 => ?_
    have G2' : Fly B X.stack x (.ref C) .none g2 := by rw [hst]; exact G2
    have J1 : Inv X pins σ (upd H' x (ExcO x C)) { s' with heap := g2 } := catch_inv I1 un hok hx hx' kb G2' (U1.trans U2) rfl ho hgn
    have J1h : Inv (Xh X x) pins σ (upd H' x (ExcO x C)) { s' with heap := g2 } := J1.toH
    refine wpAny_handleBy_cons (codeAny_handlers_test (ld_glob (X := Xh X x) J1h gH hH ?_ hdh)) (by intro z; cases z)
    have LT : PySem.W.Looks (model X.prog X.w) g2 (typeOf (.ref x)) (.ref C) := by
      obtain ⟨ox, II⟩ := (exc_in J1 upd_same).inst
      exact II.type
    refine (PySem.W.exm_one (M := model X.prog X.w) J1.kIn LT hex).here (s := { s' with heap := g2 }) (codeAny_handlers_suite_as ?_)
    refine land_ok G2 fun g3 G3 U3 => ?_
    have G3' : Fly B X.stack x (.ref C) .none g3 := by rw [hst]; exact G3
    have J2 : Inv X pins σ (upd H' x (ExcO x C)) { s' with heap := g3 } := catch_inv I1 un hok hx hx' kb G3' ((U1.trans U2).trans U3) rfl ho hgn
    refine store_ok (X := Xh X x) (i := i) (v := .ref x) J2.toH hN hi (.inl hl) rfl (fun s2 J3 => ?_) (.inr hl)
    refine wpAny_mono (suite x pins s2 _ _ _ J3 qth) (fun fl s3 z => ?_) (fun _ _ z => z.elim)
    cases fl with
    | ret u =>
      obtain ⟨v, σ3, H3, J4, rv, qv⟩ := z
      have J5 : Inv X pins σ3 H3 s3 := ⟨I.ok, J4.os, J4.bare, J4.base, J4.loc, J4.cell, J4.free, J4.freeC, J4.pin, J4.hok, J4.len⟩
      exact gone_ok J5 hl fun s4 J6 => ⟨v, _, H3, J6, rv, qv⟩
    | next => obtain ⟨_, _, _, z⟩ := z; exact z.elim
    | brk => obtain ⟨_, _, _, z⟩ := z; exact z.elim
    | cont => obtain ⟨_, _, _, z⟩ := z; exact z.elim
end
end L2

set_option genSizeOf false
set_option genInjectivity false
namespace L2
open PySem PySem.Spec PyProof.Rows
theorem entry_unchain : entryFor table "proto.unchain" = some Builtin.«proto.unchain» := entryFor_of_fast (by kernel_rfl)
section
variable {prog : Program} {w : World} {A : Around} {E : Value → Shared → Prop} {s : Shared}
theorem raiseNew_in {α : Type} {e x : Addr} {Q : α → Shared → Prop} {ox oe : Obj} {vs ws : Array Value} (hh : A.handled = some (.ref x)) (ne : x ≠ e) (hx : s.heap.get? x = some ox) (dx : ox.data = .fields vs) (h2 : vs[2]? = some .none)
    (he : s.heap.get? e = some oe) (de : oe.data = .fields ws) (sz : 2 < ws.size) (h : E (.ref e) { s with heap := s.heap.update e (Obj.mapFields (·.setIfInBounds 2 (.ref x))) }) : wpAny (model prog w) A (raiseNew (.ref e) : Sem α) Q E s := by
  have hne : (Value.ref x != Value.ref e) = true := by
    rw [bne_iff_ne]
    intro z
    exact ne (Value.ref.inj z)
  unfold raiseNew
  refine wpAny_bind (wpAny_handled ?_)
  rw [hh]
  dsimp only
  rw [if_pos hne]
  refine wpAny_bind (wpAny_holding (wpAny_runValue (codeAny_builtin entry_unchain ?_)))
  unfold Builtin.«proto.unchain»
  dsimp only
  refine wpAny_bind (wpAny_field hx dx h2 ?_)
  rw [if_pos (by decide)]
  refine wpAny_bind (wpAny_pure ?_)
  refine wpAny_pure ?_
  show wpAny _ A (setField (.ref e) 2 (.ref x) >>= fun _ => throw (Value.ref e)) Q E s
  exact wpAny_bind (wpAny_setField he de sz (wpAny_throw h))
theorem range_end_in {it x : Addr} {y left step : Int} {Q : Option Value → Shared → Prop} {ox : Obj} {vs : Array Value} (hh : A.handled = some (.ref x)) (hx : s.heap.get? x = some ox) (dx : ox.data = .fields vs) (h2 : vs[2]? = some .none) (hit : IsRangeIter s.heap it y left step) (hleft : left ≤ 0)
    (hQ : ∀ h' : Heap, (∀ b o, s.heap.get? b = some o → h'.get? b = some o) → Q none { s with heap := h' }) : wpAny (model prog w) A (pyNext (.ref it)) Q E s := by
  have hT : s.TypeIs (.ref it) "range_iterator" := ⟨_, hit, rfl⟩
  unfold pyNext
  refine wpAny_bind (wpAny_attempt (wpAny_callSpecial?_slot (name := Str.ofString "__next__") hT F.slot_range_iterator_next
    (wpAny_call_entry F.slot_range_iterator_next hT F.entry_range_iterator_next ?_ (F.args_range_iterator_next_1 _))))
  show wpAny _ _ (field (.ref it) 0 >>= _) _ _ s
  refine wpAny_bind (wpAny_field hit rfl (x := rawInt y) rfl ?_)
  show wpAny _ _ (field (.ref it) 1 >>= _) _ _ s
  refine wpAny_bind (wpAny_field hit rfl (x := rawInt left) rfl ?_)
  show wpAny _ _ (field (.ref it) 2 >>= _) _ _ s
  refine wpAny_bind (wpAny_field hit rfl (x := rawInt step) rfl ?_)
  show wpAny _ _ (if left ≤ 0 then _ else _) _ _ s
  rw [if_pos hleft]
  refine wpAny_bind (wpAny_rule ?_)
  refine wpAny_bind ?_
  show wpAny _ _ (newExc (.type "StopIteration") [] >>= _) _ _ _
  refine wpAny_bind ?_
  simp only [newExc, newTuple]
  refine wpAny_bind (wpAny_newObj_type ?_ (by size_fits))
  refine wpAny_bind (m := firstArgMember _ _) (wpAny_of_eq (a := Value.none) (by first | rfl | (simp only [firstArgMember]; rfl)) ?_)
  refine wpAny_newObj_type ?_ (by size_fits)
  have kp := fun (o o' : Obj) (b : Addr) (ob : Obj) (z : s.heap.get? b = some ob) => Heap.get?_push_of_some (h := s.heap.push o) o' (Heap.get?_push_of_some (h := s.heap) o z)
  have ne : ∀ o : Obj, (s.heap.push o).objs.size ≠ x := fun o z => by
    have := Heap.lt_size hx
    rw [← z, Heap.size_push] at this
    exact absurd this (Nat.not_lt.mpr (Nat.le_succ _))
  have ne2 : ∀ (o : Obj) (b : Addr) (ob : Obj), s.heap.get? b = some ob → (s.heap.push o).objs.size ≠ b := fun o b ob hb z => by
    have := Heap.lt_size hb
    rw [← z, Heap.size_push] at this
    exact absurd this (Nat.not_lt.mpr (Nat.le_succ _))
  refine raiseNew_in (x := x) hh (fun z => ne _ z.symm) (kp _ _ _ _ hx) dx h2 (Heap.get?_push_size _ rfl) rfl (by rw [Array.size_append]; exact Nat.lt_of_lt_of_le (show 2 < 6 by decide) (Nat.le_add_right _ _)) ?_
  refine wpAny_bind (wpAny_isInstance (T := "StopIteration") (b := true) ⟨_, Heap.get?_update_self _ (Heap.get?_push_size _ rfl) rfl, rfl⟩ isSubtype_stop ?_)
  exact wpAny_pure (hQ _ fun b o hb => (Heap.get?_update_other _ _ (ne2 _ b o hb)).trans (kp _ _ b o hb))
end

noncomputable def ItrX (x : Addr) (n : Nat) : It := ⟨fun i _ => i < n, fun i H v H' => H' = H ∧ v = .int ((i : Nat) : Int), fun i H => n ≤ i ∧ ∃ C, H x = some (ExcO x C)⟩
theorem turn_rangeH {P : Program} {w : World} {K : PySem.W.Frag} {tg : Expr} (x it : Addr) (n : Nat) : TurnZ (fun Y => Y.A.handled = some (.ref x)) P w K tg (ItrX x n) [it] it (fun i h => IsRangeIter h it ((i : Nat) : Int) ((n : Int) - ((i : Nat) : Int)) 1) where
  obj := fun i h st b hb => by
    have e : b = it := by simpa using hb
    subst e
    exact ⟨_, st, fun v z => by
      have z' : Data.fields _ = Data.cell v := z
      cases z'⟩
  keep := fun i h h' st k => k it (by simp) _ st
  item := by
    intro X hP hw hK hc i pins s σ H E I hf st hg
    subst hP hw hK
    obtain ⟨f0, f1, f2, f3, f4, f5⟩ := hf it (by simp)
    have hg : i < n := hg
    refine wpAny_pyNext_range_item st (by omega) fun h' st' sb => ?_
    have I1 : Inv X pins σ H { s with heap := h', toks := s.toks + 1 } := I.turned (fun b o hb e => (sb.2 b hb).trans e) f0 f1 f3 f4 f5
    have e1 : ((i : Nat) : Int) + 1 = ((i + 1 : Nat) : Int) := by omega
    have e2 : (n : Int) - ((i : Nat) : Int) - 1 = (n : Int) - ((i + 1 : Nat) : Int) := by omega
    rw [e1, e2] at st'
    exact ⟨_, rfl, go_of (s := { s with heap := h', toks := s.toks + 1 }) (n := "range_iterator") st' rfl rfl (by decide) ⟨.int ((i : Nat) : Int), H, I1, ⟨_, rfl⟩, ⟨rfl, rfl⟩, st', fun b hb => (hf b hb).1⟩⟩
  done := by
    intro X hP hw hK hc i pins s σ H E I hf st hg
    subst hP hw hK
    obtain ⟨hg, C, hx⟩ := hg
    obtain ⟨oe, vs, h1, _, h2, h3⟩ := exc_in I hx
    obtain ⟨f0, f1, f2, f3, f4, f5⟩ := hf it (by simp)
    exact range_end_in hc h1 h2 h3 st (by omega) fun h' eb => ⟨rfl, I.turned (t' := s.toks) (fun b o _ e => eb b o e) f0 f1 f3 f4 f5⟩
  self := fun _ _ _ _ _ st h => wpAny_pyIter_rangeiter st h
noncomputable def PIEZ (Z : Cx → Prop) (X : Cx) (pins : List (Addr × Obj)) (σ : St) (tg : Expr) (R : It → Hp → Prop) (itv : Value) (s2 : Shared) : Prop :=
  ∃ (it : Addr) (fp : List Addr) (tn : Nat → Heap → Prop) (J : It) (H' : Hp), itv = .ref it ∧ Inv X pins σ H' s2 ∧ TurnZ Z X.prog X.w X.K tg J fp it tn ∧ tn 0 s2.heap ∧ (∀ b ∈ fp, FpOk X pins H' b) ∧ R J H'
section
variable {X : Cx} {tg : Expr} {x : Addr}
theorem range_itH {pins : List (Addr × Obj)} {σ : St} {H : Hp} {s : Shared} {R : It → Hp → Prop} {E : Value → Shared → Prop} {hi : Int} {t u v : Tok} {tk : Nat} (I : Inv X pins σ H s) (h3 : -(2 ^ 62) ≤ hi) (h4 : hi < 2 ^ 62)
    (q : R (ItrX x hi.toNat) H) : wpAny (model X.prog X.w) X.A (pyIter (.ref s.heap.objs.size)) (PIEZ (fun Y => Y.A.handled = some (.ref x)) X pins σ tg R) E { s with heap := s.heap.push { cls := .type "range", data := .fields #[.int 0 t, .int hi u, .int 1 v] }, toks := tk } := by
  refine wpAny_pyIter_range (IsRange.new ..) (small_one (by decide) (by decide) h3 h4) ?_
  have I1 : Inv X pins σ H { s with heap := s.heap.push { cls := .type "range", data := .fields #[.int 0 t, .int hi u, .int 1 v] }, toks := tk } := I.kept fun b o e => Heap.get?_push_of_some _ e
  refine ⟨(s.heap.push { cls := .type "range", data := .fields #[.int 0 t, .int hi u, .int 1 v] }).objs.size, [(s.heap.push { cls := .type "range", data := .fields #[.int 0 t, .int hi u, .int 1 v] }).objs.size], _, _, H, rfl,
    I1.kept (t' := tk) fun b o e => Heap.get?_push_of_some _ e, turn_rangeH x _ hi.toNat, ?_, fun b hb => ?_, q⟩
  · have e2 : ((hi.toNat : Nat) : Int) - ((0 : Nat) : Int) = Builtin.Range.rangeSize 0 hi 1 := by rw [rangeSize_one]; split <;> omega
    show IsRangeIter _ _ (((0 : Nat) : Int)) (((hi.toNat : Nat) : Int) - ((0 : Nat) : Int)) 1
    rw [e2]
    exact Heap.get?_push_size _ rfl
  · have e : b = (s.heap.push { cls := .type "range", data := .fields #[.int 0 t, .int hi u, .int 1 v] }).objs.size := by simpa using hb
    subst e
    exact I1.fpOk (Nat.le_refl _) (I1.hok.fresh (Nat.le_refl _))
noncomputable def iRngH (x : Addr) (ta : TA) : TI := fun σ H R => ta σ H fun vs H1 => ∃ j : Int, vs = [.int j] ∧ -(2 ^ 62) ≤ j ∧ j < 2 ^ 62 ∧ R (ItrX x j.toNat) H1
theorem pi_rangeH {a : Expr} {ta : TA} {p pos : Pos} (hg : Gl X "range") (hm : X.mg "range" = none) (ha : PA X [a] ta) (hst : starEach [a] X.env = [(false, eval a X.env)]) (pins : List (Addr × Obj)) (s : Shared) (σ : St) (H : Hp) (R : It → Hp → Prop) (I : Inv X pins σ H s) (h : iRngH x ta σ H R) :
    wpAny (model X.prog X.w) X.A (eval (.Call (.Name "range" p) [a] [] pos) X.env) (fun v s1 => wpAny (model X.prog X.w) X.A (pyIter v) (PIEZ (fun Y => Y.A.handled = some (.ref x)) X pins σ tg R) X.xe s1) X.xe s := by
  refine Call_ (ld_blt I hg hm boot_range (PyProof.Rows.callWith_type1 (thn (ha pos pins s σ H _ I h) fun us s1 ⟨vs, H1, I1, r1, q1⟩ => ?_) hst rfl))
  obtain ⟨j, e, q1, q2, q⟩ := q1
  subst e
  cases r1 with
  | cons r rr =>
    cases rr
    obtain ⟨t, rfl⟩ := r
    exact call_range_1 (range_itH (x := x) I1 q1 q2 q)
theorem pe_compH {elt target a : Expr} {ifs : List Expr} {scope : Scope} {p cpos pos : Pos} {cap : List (Nat × Str)} {own : List Str} {g : TG} {tc : TT} {te : TE} {ta : TA} (hh : X.A.handled = some (.ref x)) (O : CompOk X scope cap own)
    (hg : Gl X "range") (hm : X.mg "range" = none) (ha : PA X [a] ta)
    (hb : ∀ (C : Addr) (s0 : Shared) (H0 : Hp) (fp : List Addr), PG (cxC X (cap.map (·.2) ++ own) scope C s0 H0 fp) target g ∧ PF (cxC X (cap.map (·.2) ++ own) scope C s0 H0 fp) ifs tc ∧ PE (cxC X (cap.map (·.2) ++ own) scope C s0 H0 fp) elt te)
    (hst : starEach [a] X.env = [(false, eval a X.env)] := by rfl) (hs : ∀ x, foldedSetIterable (.Call (.Name "range" p) [a] [] cpos) X.env x = pure x := by intro _; rfl) :
    PE X (.ListComp elt [⟨target, .Call (.Name "range" p) [a] [] cpos, ifs, 0⟩] scope pos) (tComp cap own.length (iRngH x ta) g tc te) := by
  intro pins s σ H Q I h
  rw [eval_ListComp]
  have hclos : closureFor scope X.env = pure (compCl X.env.cells scope.names []) := closureFor_cl fun y hy hf => I.ok.has y.1 (.inl (O.free y hy hf).1)
  refine wpAny_comprehension_free (use := none) rfl hs hclos O.kind O.names (thn (pi_rangeH (tg := target) hg hm ha hst pins s σ H _ I h) fun v s1 h1 => thn h1 fun itv s2 h2 => ?_)
  obtain ⟨it, fp, tn, J, H2, rfl, I2, T, st2, f2, hR⟩ := h2
  refine comp_core (RR := fun acc C => compPost (model X.prog X.w) X.A X.xe none (EP X pins σ Q) acc C) (Z := fun Y => Y.A.handled = some (.ref x)) (fun _ _ _ _ _ => hh) O hb I2 T st2 f2 hR ?_
  intro D C s4 m H' I4 hn fC q
  obtain ⟨z0, z1, z2, z3, z4, z5⟩ := fC
  refine ⟨m, hn, fun h' hs' => ⟨.ref D, H', I4.turned (t' := s4.toks) (fun b o hb' e => hs'.extBut b o hb' e) z0 z1 z3 z4 z5, rfl, q⟩⟩
end
noncomputable def FnAt (P : Program) (w : World) (K : PySem.W.Frag) (mg : Str → Option Value) (base : Heap) (CX : CXT) (k : Nat) (f : Addr) (sp : Sp) : Prop :=
  ∃ (fd : FuncData) (ps : List Str), PySem.W.keepIn K (.ref f) = true ∧ Binds K fd ps [] ∧ FnOk P w K mg base CX k f fd ps sp
noncomputable def tCallV (G : Addr → Sp → Prop) (E : XK) (tf : TE) (t : TA) : TE := fun σ H Q => tf σ H fun fv H1 => ∃ f sp, fv = .ref f ∧ G f sp ∧ t σ H1 fun vs H2 => sp (vs ++ []) H2 Q E
section
variable {X : Cx}
theorem pe_callV {CX : CXT} {k : Nat} {E : XK} {fe e : Expr} {es : List Expr} {tf : TE} {t : TA} {pos : Pos} (G : Addr → Sp → Prop) (hG : ∀ f sp, G f sp → FnAt X.prog X.w X.K X.mg X.base CX k f sp) (hr : Room k X.A) (hx : Passes CX X E) (hf : PE X fe tf) (ha : PA X (e :: es) t)
    (he : starEach (e :: es) X.env = (false, eval e X.env) :: starEach es X.env := by rfl) (hpl : (backTo pos (starEach es X.env)).any (·.1) = false := by rfl)
    (hform : eval (.Call fe (e :: es) [] pos) X.env = (do callWith pos (← eval fe X.env) [] (backTo pos (starEach (e :: es) X.env)) (backToKw pos (keywordEach [] X.env))) := by rfl) :
    PE X (.Call fe (e :: es) [] pos) (tCallV G E tf t) := by
  intro pins s σ H Q I h
  refine Call_ (thn (hf pins s σ H _ I h) fun u s0 ⟨fv, H0, I0, r0, f, sp, ef, g, q0⟩ => ?_) hform
  subst ef
  cases (show u = Value.ref f from r0)
  obtain ⟨fd, ps, hk, hb, F⟩ := hG f sp g
  refine PySem.W.callWith_K (h₀ := X.base) I.ok.mod.kin hk (thn (ha pos pins s0 σ H0 _ I0 q0) fun us s1 ⟨vs, H1, I1, r, q⟩ => ⟨I1.kIn, ?_⟩) he hpl
  exact run_fn F hr hb .nil hx I1 r q
end
theorem FnOk.or {P : Program} {w : World} {K : PySem.W.Frag} {mg : Str → Option Value} {base : Heap} {CX : CXT} {k : Nat} {f : Addr} {fd : FuncData} {ps : List Str} {sp sp' : Sp} (F : FnOk P w K mg base CX k f fd ps sp) (G : FnOk P w K mg base CX k f fd ps sp') :
    FnOk P w K mg base CX k f fd ps (fun vs H Q E => sp vs H Q E ∨ sp' vs H Q E) :=
  ⟨fun vs H Q E h => h.elim (F.len vs H Q E) (G.len vs H Q E), fun A outer s H args us vs Q E hr he hb r h => h.elim (F.run A outer s H args us vs Q E hr he hb r) (G.run A outer s H args us vs Q E hr he hb r)⟩
theorem Dfn.toE {P : Program} {w : World} {K : PySem.W.Frag} {mg : Str → Option Value} {base : Heap} {k : Nat} {x : Str} {ps : List Str} {sp : Sp} (D : Dfn P w K mg base x k ps sp) : DfnE P w K mg base x k ps sp := by
  obtain ⟨f, fd, a, b, c, F⟩ := D
  exact ⟨f, fd, a, b, c, F.toE⟩
theorem DfnE.at {P : Program} {w : World} {K : PySem.W.Frag} {mg : Str → Option Value} {base : Heap} {k : Nat} {x : Str} {ps : List Str} {sp : Sp} (D : DfnE P w K mg base x k ps sp) : ∃ f, mg x = some (.ref f) ∧ FnAt P w K mg base (CXE P w) k f sp := by
  obtain ⟨f, fd, a, b, c, F⟩ := D
  exact ⟨f, a, fd, ps, b, c, F⟩
theorem Dfn.at {P : Program} {w : World} {K : PySem.W.Frag} {mg : Str → Option Value} {base : Heap} {k : Nat} {x : Str} {ps : List Str} {sp : Sp} (D : Dfn P w K mg base x k ps sp) : ∃ f, mg x = some (.ref f) ∧ FnAt P w K mg base CX0 k f sp := by
  obtain ⟨f, fd, a, b, c, F⟩ := D
  exact ⟨f, a, fd, ps, b, c, F⟩
end L2

set_option genSizeOf false
set_option genInjectivity false
namespace L2
open PySem PySem.Spec PyProof.Rows
inductive Tm where
  | non | bl (b : Bool) | int (i : Int) | str | dct | tup (l : List Tm) | lst (l : List Tm)
mutual
inductive Is (H : Hp) : Tm → V → Prop
  | non : Is H .non .non
  | bl (b : Bool) : Is H (.bl b) (.bl b)
  | int (i : Int) : Is H (.int i) (.int i)
  | str (x : Str) : Is H .str (.str x)
  | dct {a : Addr} (e : H a = some (.dK [])) : Is H .dct (.ref a)
  | tup {a : Addr} {l : List Tm} {xs : List V} (e : H a = some (.tup xs)) (p : IsL H l xs) : Is H (.tup l) (.ref a)
  | lst {a : Addr} {l : List Tm} {xs : List V} (e : H a = some (.lst xs)) (p : IsL H l xs) : Is H (.lst l) (.ref a)
inductive IsL (H : Hp) : List Tm → List V → Prop
  | nil : IsL H [] []
  | cons {t : Tm} {l : List Tm} {v : V} {xs : List V} (h : Is H t v) (r : IsL H l xs) : IsL H (t :: l) (v :: xs)
end
theorem Is.same {H H' : Hp} {t : Tm} {v : V} (s : Same H H') (h : Is H t v) : Is H' t v :=
  Is.rec (motive_1 := fun t v _ => Is H' t v) (motive_2 := fun l xs _ => IsL H' l xs) Is.non Is.bl Is.int Is.str (fun e => Is.dct (s _ _ e)) (fun e _ p => Is.tup (s _ _ e) p) (fun e _ p => Is.lst (s _ _ e) p) IsL.nil (fun _ _ a b => IsL.cons a b) h
theorem IsL.same {H H' : Hp} {l : List Tm} {xs : List V} (s : Same H H') (h : IsL H l xs) : IsL H' l xs :=
  IsL.rec (motive_1 := fun t v _ => Is H' t v) (motive_2 := fun l xs _ => IsL H' l xs) Is.non Is.bl Is.int Is.str (fun e => Is.dct (s _ _ e)) (fun e _ p => Is.tup (s _ _ e) p) (fun e _ p => Is.lst (s _ _ e) p) IsL.nil (fun _ _ a b => IsL.cons a b) h
noncomputable def tyT : Tm → String
  | .non => "NoneType" | .bl _ => "bool" | .int _ => "int" | .str => "str" | .dct => "dict" | .tup _ => "tuple" | .lst _ => "list"
theorem Is.ty {K : PySem.W.Frag} {H : Hp} {t : Tm} {v : V} (h : Is H t v) : TyOf K H v (.type (tyT t)) := by
  cases h with
  | non => exact TyOf.non
  | bl b => exact TyOf.bl b
  | int i => exact TyOf.int i
  | str x => exact TyOf.str x
  | dct e => exact TyOf.dK e
  | tup e p => exact TyOf.tup e
  | lst e p => exact TyOf.lst e
theorem Is.ofInt {H : Hp} {t : Tm} {i : Int} (h : Is H t (.int i)) : t = .int i := by
  cases h
  rfl
theorem Is.toInt {H : Hp} {i : Int} {v : V} (h : Is H (.int i) v) : v = .int i := by
  cases h
  rfl
theorem Is.int_of {H : Hp} {t : Tm} {v : V} (h : Is H t v) (e : tyT t = "int") : ∃ i, t = .int i ∧ v = .int i := by
  cases h with
  | int i => exact ⟨i, rfl, rfl⟩
  | _ => simp [tyT] at e
theorem Is.tup_of {H : Hp} {t : Tm} {v : V} (h : Is H t v) (e : tyT t = "tuple") : ∃ a l xs, t = .tup l ∧ v = .ref a ∧ H a = some (.tup xs) ∧ IsL H l xs := by
  cases h with
  | tup ea p => exact ⟨_, _, _, rfl, rfl, ea, p⟩
  | _ => simp [tyT] at e
theorem Is.lst_of {H : Hp} {t : Tm} {v : V} (h : Is H t v) (e : tyT t = "list") : ∃ a l xs, t = .lst l ∧ v = .ref a ∧ H a = some (.lst xs) ∧ IsL H l xs := by
  cases h with
  | lst ea p => exact ⟨_, _, _, rfl, rfl, ea, p⟩
  | _ => simp [tyT] at e
theorem IsL.length {H : Hp} : ∀ {l : List Tm} {xs : List V}, IsL H l xs → l.length = xs.length
  | [], _, h => by cases h; rfl
  | _ :: l, _, h => by
    cases h with
    | cons a b => rw [List.length_cons, List.length_cons, IsL.length b]
theorem IsL.get {H : Hp} : ∀ {l : List Tm} {xs : List V} {i : Nat} {v : V}, IsL H l xs → xs[i]? = some v → ∃ t, l[i]? = some t ∧ Is H t v
  | [], _, _, _, h, e => by cases h; simp at e
  | t :: l, _, 0, v, h, e => by
    cases h with
    | cons a b => simp at e; subst e; exact ⟨t, rfl, a⟩
  | t :: l, _, i + 1, v, h, e => by
    cases h with
    | cons a b =>
      obtain ⟨u, h1, h2⟩ := IsL.get (i := i) b (by simpa using e)
      exact ⟨u, by simpa using h1, h2⟩
theorem IsL.at {H : Hp} : ∀ {l : List Tm} {xs : List V} {i : Nat} {t : Tm}, IsL H l xs → l[i]? = some t → ∃ v, xs[i]? = some v ∧ Is H t v
  | [], _, _, _, h, e => by simp at e
  | t :: l, _, 0, u, h, e => by
    cases h with
    | cons a b => simp at e; subst e; exact ⟨_, rfl, a⟩
  | t :: l, _, i + 1, u, h, e => by
    cases h with
    | cons a b =>
      obtain ⟨v, h1, h2⟩ := IsL.at (i := i) b (by simpa using e)
      exact ⟨v, by simpa using h1, h2⟩
theorem IsL.append {H : Hp} : ∀ {l m : List Tm} {xs ys : List V}, IsL H l xs → IsL H m ys → IsL H (l ++ m) (xs ++ ys)
  | [], _, _, _, h, k => by cases h; exact k
  | _ :: l, _, _, _, h, k => by
    cases h with
    | cons a b => exact .cons a (IsL.append b k)
noncomputable def tSh (c : Int) (t : Tm) : TE := fun σ H Q => σ[0]? = some (some (.int c)) ∧ ∀ v H', Same H H' → Is H' t v → Q v H'
noncomputable def tShs (c : Int) (l : List Tm) : TA := fun σ H Q => σ[0]? = some (some (.int c)) ∧ ∀ xs H', Same H H' → IsL H' l xs → Q xs H'
section
variable {X : Cx} {c : Int}
theorem sh_non {j pos} : PE X (.Constant .none j pos) (tSh c .non) := pe_weak pe_non fun _ H _ q => q.2 _ H (Same.refl H) .non
theorem sh_bl {b j pos} : PE X (.Constant (.bool b) j pos) (tSh c (.bl b)) := pe_weak pe_bl fun _ H _ q => q.2 _ H (Same.refl H) (.bl b)
theorem sh_int {i j pos} : PE X (.Constant (.int i) j pos) (tSh c (.int i)) := pe_weak pe_int fun _ H _ q => q.2 _ H (Same.refl H) (.int i)
theorem sh_str {x j pos} : PE X (.Constant (.str x) j pos) (tSh c .str) := pe_weak pe_str fun _ H _ q => q.2 _ H (Same.refl H) (.str x)
theorem sh_dct {pos} : PE X (.Dict [] [] pos) (tSh c .dct) := pe_weak pe_dnewK fun _ H _ q p n => q.2 _ _ (Same.upd n) (.dct upd_same)
theorem sh_cell {x : Str} {pos : Pos} (h : PE X (.Name x pos) (tVar 0)) : PE X (.Name x pos) (tSh c (.int c)) := pe_weak h fun _ H _ q => ⟨_, q.1, q.2 _ H (Same.refl H) (.int c)⟩
theorem sh_neg {e : Expr} {i : Int} {pos : Pos} (h : PE X e (tSh c (.int i))) : PE X (.UnaryOp .USub e pos) (tSh c (.int (-i))) := pe_weak (pe_un un_neg h) fun _ H _ q => ⟨q.1, fun v H' s k => by
  cases k
  exact ⟨_, rfl, q.2 _ H' s (.int (-i))⟩⟩
theorem sh_sub {a b : Expr} {i j : Int} {pos : Pos} (h : PE X a (tSh c (.int i))) (h' : PE X b (tSh c (.int j))) : PE X (.BinOp a .Sub b pos) (tSh c (.int (i - j))) := pe_weak (pe_op op_sub h h') fun _ H _ q => ⟨q.1, fun v H' s k => ⟨q.1, fun v' H2 s2 k2 => by
  cases k
  cases k2
  exact ⟨_, _, rfl, rfl, q.2 _ H2 (s.trans s2) (.int (i - j))⟩⟩⟩
theorem sh_add {a b : Expr} {i j : Int} {pos : Pos} (h : PE X a (tSh c (.int i))) (h' : PE X b (tSh c (.int j))) : PE X (.BinOp a .Add b pos) (tSh c (.int (i + j))) := pe_weak (pe_op op_add h h') fun _ H _ q => ⟨q.1, fun v H' s k => ⟨q.1, fun v' H2 s2 k2 => by
  cases k
  cases k2
  exact ⟨_, _, rfl, rfl, q.2 _ H2 (s.trans s2) (.int (i + j))⟩⟩⟩
theorem sa_nil : PA X [] (tShs c []) := pa_weak pa_nil fun _ H _ q => q.2 _ H (Same.refl H) .nil
theorem sa_cons {e : Expr} {es : List Expr} {t : Tm} {l : List Tm} (n : NoStar e) (h : PE X e (tSh c t)) (r : PA X es (tShs c l)) : PA X (e :: es) (tShs c (t :: l)) :=
  pa_weak (pa_cons h r (n _ _)) fun _ H _ q => ⟨q.1, fun v H' s k => ⟨q.1, fun xs H2 s2 k2 => q.2 _ H2 (s.trans s2) (.cons (k.same s2) k2)⟩⟩
theorem sh_tup {es : List Expr} {l : List Tm} {x1 pos} (hl : l.length ≤ 1000) (h : PA X es (tShs c l)) : PE X (.Tuple es x1 pos) (tSh c (.tup l)) :=
  pe_weak (pe_tup h) fun _ H _ q => ⟨q.1, fun xs H' s k => ⟨Nat.le_of_lt (small1000 (by rw [← k.length]; exact hl)), fun p n => q.2 _ _ (s.trans (Same.upd n)) (.tup upd_same (k.same (Same.upd n)))⟩⟩
theorem sh_lst {es : List Expr} {l : List Tm} {pos} (hl : l.length ≤ 1000) (h : PA X es (tShs c l)) : PE X (.List es pos) (tSh c (.lst l)) :=
  pe_weak (pe_lst h) fun _ H _ q => ⟨q.1, fun xs H' s k => ⟨Nat.le_of_lt (small1000 (by rw [← k.length]; exact hl)), fun p n => q.2 _ _ (s.trans (Same.upd n)) (.lst upd_same (k.same (Same.upd n)))⟩⟩
theorem ns_bin {a b : Expr} {o : Operator} {p : Pos} : NoStar (.BinOp a o b p) := fun _ _ => rfl
theorem ns_dct {ks : List (Option Expr)} {vs : List Expr} {p : Pos} : NoStar (.Dict ks vs p) := fun _ _ => rfl
end
end L2

set_option genSizeOf false
set_option genInjectivity false
namespace Fk
open PySem L2 Fm PyProof.Rows
structure ClsK (K : PySem.W.Frag) (C eF eR eS eD eT : Addr) (k : Int) : Prop where
  ex : ExcK K C
  hF : PySem.W.exmOne K (.ref C) (.ref eF) = some true
  tR : PySem.W.kitOne K (.ref C) (.ref eR) = some (decide (k = 0))
  tS : PySem.W.kitOne K (.ref C) (.ref eS) = some (decide (k = 1))
  tD : PySem.W.kitOne K (.ref C) (.ref eD) = some (decide (k = 2))
  tT : PySem.W.kitOne K (.ref C) (.ref eT) = some false
  tV : PySem.W.kitOne K (.ref C) (.type "ValueError") = some true
structure Ex (K : PySem.W.Frag) (mg : Str → Option Value) (eF eR eS eD eT : Addr) : Prop where
  gF : mg "FallError" = some (.ref eF)
  gR : mg "BadRow" = some (.ref eR)
  gS : mg "BadStone" = some (.ref eS)
  gD : mg "BadSide" = some (.ref eD)
  gT : mg "BadText" = some (.ref eT)
  gV : mg "ValueError" = none
  kR : ClsK K eR eF eR eS eD eT 0
  kS : ClsK K eS eF eR eS eD eT 1
  kD : ClsK K eD eF eR eS eD eT 2
theorem kit_own {K : PySem.W.Frag} {C D : Addr} {b : Bool} (h1 : PySem.W.isClsIn K D = true) (h2 : PySem.W.typeIn K (.ref D) = some (.type "type")) (h3 : PySem.W.mroIn K C (.ref D) = some b) (hs : PySem.W.mroIn K C (.ref C) = some true) : PySem.W.kitOne K (.ref C) (.ref D) = some b := by
  unfold PySem.W.kitOne
  by_cases e : C = D
  · subst e
    rw [h3] at hs
    rw [if_pos (by simp)]
    exact hs.symm
  · have e2 : ((Value.ref C) == (Value.ref D)) = false := by
      rw [beq_eq_false_iff_ne]
      intro z
      exact e (Value.ref.inj z)
    rw [if_neg (by rw [e2]; exact Bool.false_ne_true)]
    unfold PySem.W.kitCls
    unfold PySem.W.isClsIn at h1
    show (if ((PySem.W.clsIn K D).isSome && PySem.W.typeIn K (.ref D) == some (.type "type")) = true then PySem.W.subIn K (.ref C) (.ref D) else none) = some b
    rw [if_pos (by rw [h1, h2]; decide +kernel)]
    exact h3
theorem kit_val {K : PySem.W.Frag} {C : Addr} {b : Bool} (h3 : PySem.W.mroIn K C (.type "ValueError") = some b) : PySem.W.kitOne K (.ref C) (.type "ValueError") = some b := by
  unfold PySem.W.kitOne
  rw [if_neg (by rw [beq_iff_eq]; intro z; cases z)]
  show (if PySem.W.kitMeta "ValueError" = true then PySem.W.subIn K (.ref C) (.type "ValueError") else none) = some b
  rw [if_pos (by decide +kernel)]
  exact h3
theorem exm_own {K : PySem.W.Frag} {C D : Addr} (h0 : PySem.W.mroIn K D (.type "BaseException") = some true) (h1 : PySem.W.isClsIn K D = true) (h2 : PySem.W.typeIn K (.ref D) = some (.type "type")) (h3 : PySem.W.mroIn K C (.ref D) = some true) : PySem.W.exmOne K (.ref C) (.ref D) = some true := by
  unfold PySem.W.exmOne
  have e : PySem.W.subIn K (.ref D) (.type "BaseException") = some true := h0
  rw [e, if_pos (by decide)]
  unfold PySem.W.kitCls
  unfold PySem.W.isClsIn at h1
  show (if ((PySem.W.clsIn K D).isSome && PySem.W.typeIn K (.ref D) == some (.type "type")) = true then PySem.W.subIn K (.ref C) (.ref D) else none) = some true
  rw [if_pos (by rw [h1, h2]; decide +kernel)]
  exact h3
noncomputable def stoneB : Tm → Bool
  | .tup [.int _, .int h] => decide (1 ≤ h)
  | _ => false
noncomputable def place : Tm → Int
  | .tup (.int p :: _) => p
  | _ => 0
noncomputable def RowBad (t : Tm) : Prop := tyT t ≠ "list" ∨ ∃ l, t = .lst l ∧ l.length ≤ 1000 ∧ ((∃ (i : Nat) (x : Tm), l[i]? = some x ∧ stoneB x = false) ∨ ∃ (i : Nat) (x y : Tm), l[i]? = some x ∧ l[i + 1]? = some y ∧ place y ≤ place x)
noncomputable def StoneBad (n : Nat) (t : Tm) : Prop := ∀ i, t = .int i → ¬ (0 ≤ i ∧ i < (n : Int))
noncomputable def SideBad (t : Tm) : Prop := ∀ i, t = .int i → ¬ Sd i
noncomputable def PushBad (n : Nat) (t : Tm) : Prop := (∀ x y, t ≠ .tup [x, y]) ∨ ∃ x y, t = .tup [x, y] ∧ StoneBad n x
theorem stoneB_of {x : Tm} (h : stoneB x = true) : ∃ p q, x = .tup [.int p, .int q] ∧ 1 ≤ q := by
  unfold stoneB at h
  split at h
  · exact ⟨_, _, rfl, of_decide_eq_true h⟩
  · cases h
theorem stoneB_len {l : List Tm} (h : l.length ≠ 2) : stoneB (.tup l) = false := by
  unfold stoneB
  split
  · rename_i e
    cases e
    exact absurd rfl h
  · rfl
theorem stoneB_ty {t : Tm} (h : tyT t ≠ "tuple") : stoneB t = false := by
  unfold stoneB
  split
  · exact absurd rfl h
  · rfl
theorem stoneB_0 {t u : Tm} (h : tyT t ≠ "int") : stoneB (.tup [t, u]) = false := by
  unfold stoneB
  split
  · rename_i e
    cases e
    exact absurd rfl h
  · rfl
theorem stoneB_1 {t u : Tm} (h : tyT u ≠ "int") : stoneB (.tup [t, u]) = false := by
  unfold stoneB
  split
  · rename_i e
    cases e
    exact absurd rfl h
  · rfl
section
variable {P : Program} {w : World} {K : PySem.W.Frag} {mg : Str → Option Value} {base : Heap} {eF eR eS eD eT : Addr}
noncomputable def spStn : Sp := fun vs H Q _ => ∃ t v, vs = [v] ∧ Is H t v ∧ Q (.bl (stoneB t)) H
theorem ok_stn {f : Addr} {fd : FuncData} (F : Fun K "is_stone" "is_stone" sStone f fd) (B : Blt mg) (d_is_pair : Dfn P w K mg base "is_pair" 1 ["value"] (spPair K)) (d_is_number : Dfn P w K mg base "is_number" 1 ["value"] (spNum K)) : FnOk P w K mg base CX0 2 f fd ["value"] spStn := by
  refine F.ok scStone (fun vs H Q E h => ?_) (fun cdv A outer s H vs Q E hr h => ?_)
  · obtain ⟨t, v, rfl, _⟩ := h
    rfl
  · obtain ⟨t, v, rfl, i, q⟩ := h
    refine ⟨_, (pss_one (ps_ret (pe_and (pe_callD d_is_pair (hr.mono (by decide)) (by rfl) (pa_cons (pv 0) pa_nil)) (pe_and (pe_callD d_is_number (hr.mono (by decide)) (by rfl) (pa_cons (pe_ix ix_tup (pv 0) pe_int (fun _ _ => rfl)) pa_nil)) (pe_and (pe_callD d_is_number (hr.mono (by decide)) (by rfl) (pa_cons (pe_ix ix_tup (pv 0) pe_int (fun _ _ => rfl)) pa_nil)) (pe_one (pe_cmpR op_ge (pe_ix ix_tup (pv 0) pe_int (fun _ _ => rfl)) pe_int (nomark _)))))))), ?_⟩
    refine ⟨_, rfl, _, _, rfl, i.ty, fun a xs e e2 => ?_, fun z => ⟨_, rfl, iteF (by rw [stoneB_ty z] at q; exact q)⟩⟩
    subst e
    have tt : tyT t = "tuple" := by
      cases i with
      | tup e p => rfl
      | lst e p => rw [e] at e2; cases e2
      | dct e => rw [e] at e2; cases e2
    obtain ⟨a', l, xs', rfl, ea, ex, p⟩ := i.tup_of tt
    cases ea
    rw [ex] at e2
    cases e2
    have hl := p.length
    by_cases c : xs.length = 2
    · rw [decide_eq_true c]
      cases p with
      | nil => cases c
      | @cons t0 _ _ _ p0 p =>
        cases p with
        | nil => cases c
        | @cons t1 _ _ _ p1 p =>
          cases p with
          | cons p2 p => simp at c
          | nil =>
            refine ⟨_, rfl, iteT ⟨_, rfl, a, _, 0, _, rfl, rfl, SqT.of ex, rfl, _, _, rfl, p0.ty, _, rfl, ?_⟩⟩
            by_cases c0 : tyT t0 = "int"
            · rw [decide_eq_true c0]
              obtain ⟨i0, rfl, rfl⟩ := p0.int_of c0
              refine iteT ⟨_, rfl, a, _, 1, _, rfl, rfl, SqT.of ex, rfl, _, _, rfl, p1.ty, _, rfl, ?_⟩
              by_cases c1 : tyT t1 = "int"
              · rw [decide_eq_true c1]
                obtain ⟨i1, rfl, rfl⟩ := p1.int_of c1
                exact iteT ⟨_, rfl, a, _, 1, _, rfl, rfl, SqT.of ex, rfl, _, _, rfl, rfl, q⟩
              · rw [decide_eq_false c1]
                rw [stoneB_1 c1] at q
                exact iteF q
            · rw [decide_eq_false c0]
              rw [stoneB_0 c0] at q
              exact iteF q
    · rw [decide_eq_false c]
      rw [stoneB_len (by rw [hl]; exact c)] at q
      exact ⟨_, rfl, iteF q⟩
noncomputable def spCRb (eR : Addr) : Sp := fun vs H _ E => ∃ t v, vs = [v] ∧ Is H t v ∧ RowBad t ∧ ∀ x, H x = none → E (.ref eR) (some x) H
noncomputable def spCR (eR : Addr) : Sp := fun vs H Q E => spChkRow vs H Q E ∨ spCRb eR vs H Q E
theorem one_ok : 1 ≤ sizeLine := by decide
theorem ok_cr {f : Addr} {fd : FuncData} (F : Fun K "check_row" "check_row" sChkRow f fd) (B : Blt mg) (T : Ex K mg eF eR eS eD eT) (d_is_stone : Dfn P w K mg base "is_stone" 2 ["value"] spStone) (d_stn : Dfn P w K mg base "is_stone" 2 ["value"] spStn) : FnOk P w K mg base (CXE P w) 3 f fd ["row"] (spCR eR) := by
  refine (ok_chkRow F B d_is_stone).toE.or ?_
  refine F.okE scChkRow (fun vs H Q E h => ?_) (fun cdv A outer s H vs Q E hr R h => ?_)
  · obtain ⟨t, v, rfl, _⟩ := h
    rfl
  · obtain ⟨t, v, rfl, iv, bad, q⟩ := h
    refine ⟨_, (pss_cons (ps_if (pt_not (pt_val (pe_callB (call_isiK K rfl) (by rfl) B.b_isinstance boot_isinstance (pa_cons (pv 0) (pa_cons (pe_bltn (v := .ty "list") rfl B.b_list boot_list rfl) pa_nil)))))
        (pss_one (ps_raiseE R T.gR T.kR.ex (by rfl) hr.hd (pa_cons pe_str pa_nil)))
        pss_nil)
      (pss_cons (ps_for PassesOwn.leaving rfl (pi_list (pv 0)) (pg_name (i := 1) scChkRow.nd rfl (Or.inl rfl))
        (pss_one (ps_if (pt_not (pt_val (pe_callD d_stn (hr.mono (by decide)) (by rfl) (pa_cons (pv 1) pa_nil))))
          (pss_one (ps_raiseE R T.gR T.kR.ex (by rfl) hr.hd (pa_cons pe_str pa_nil)))
          pss_nil)))
      (pss_one (ps_for PassesOwn.leaving rfl (pi_range2 rfl B.b_range (pa_cons pe_int (pa_cons (pe_callB (call_len_seqK K rfl) (by rfl) B.b_len boot_len (pa_cons (pv 0) pa_nil)) pa_nil))) (pg_name (i := 2) scChkRow.nd rfl (Or.inl rfl))
        (pss_one (ps_if (pt_cmpR op_le (pe_ix (ix_tupK K rfl) (pe_ix (ix_listK K rfl) (pv 0) (pv 2) (fun _ _ => rfl)) pe_int (fun _ _ => rfl)) (pe_ix (ix_tupK K rfl) (pe_ix (ix_listK K rfl) (pv 0) (pe_op op_sub (pv 2) pe_int) (fun _ _ => rfl)) pe_int (fun _ _ => rfl)) (nomark _))
          (pss_one (ps_raiseE R T.gR T.kR.ex (by rfl) hr.hd (pa_cons pe_str pa_nil)))
          pss_nil)))))), ?_⟩
    have k3 := (ty_kit (iv.ty (K := K))).2.2.1
    refine ⟨_, rfl, _, _, _, _, rfl, iv.ty, kitB k3, _, rfl, ?_⟩
    by_cases cl : tyT t = "list"
    · rw [decide_eq_true cl]
      refine iteF ?_
      obtain ⟨a, l, xs, rfl, rfl, ha, p⟩ := iv.lst_of cl
      obtain bad | ⟨l', el, hle, bad⟩ := bad
      · exact absurd rfl bad
      cases el
      have hl := p.length
      refine ⟨_, rfl, a, rfl, ⟨_, SqL.of ha⟩, for_list (K := K) (a := a) (xs := xs) (fun i σ H2 => (∃ v, σ = [some (.ref a), v, none]) ∧ H2 = H ∧ ∀ j x, j < i → l[j]? = some x → stoneB x = true) ⟨⟨none, rfl⟩, rfl, fun j x z => absurd z (by omega)⟩ (fun i σ H2 _ ⟨_, e, _⟩ => e ▸ SqL.of ha) ?_ ?_⟩
      · rintro i y σ H2 hi ⟨⟨v, rfl⟩, rfl, so⟩
        obtain ⟨u, e1, e2⟩ := p.get hi
        refine ⟨_, rfl, u, y, rfl, e2, _, rfl, ?_⟩
        cases cs : stoneB u with
        | true =>
          refine iteF ⟨⟨_, rfl⟩, rfl, fun j x z e => ?_⟩
          by_cases ej : j = i
          · subst ej
            rw [e1] at e
            cases e
            exact cs
          · exact so j x (by omega) e
        | false => exact iteT ⟨one_ok, q⟩
      · rintro σ H2 ⟨⟨v, rfl⟩, rfl, so⟩
        have so : ∀ (j : Nat) (x : Tm), l[j]? = some x → stoneB x = true := fun j x e => so j x (by rw [← hl]; exact (List.getElem?_eq_some_iff.mp e).1) e
        obtain ⟨j, x, e, z⟩ | ⟨j, x, y, ex, ey, lt⟩ := bad
        · rw [so j x e] at z
          cases z
        refine ⟨_, rfl, a, xs, rfl, .inl (SqL.of ha), 1, (xs.length : Int), rfl, ⟨by decide, by decide, by omega, by omega⟩, for_range (fun i σ H3 => (∃ v u, σ = [some (.ref a), v, u]) ∧ H3 = H2 ∧ i ≤ j) ⟨⟨v, none, rfl⟩, rfl, Nat.zero_le _⟩ ?_ ?_⟩
        · rintro i σ H3 hi ⟨⟨v, u, rfl⟩, rfl, hj⟩
          have hb : i + 1 < xs.length := by omega
          obtain ⟨t0, m0⟩ : ∃ t0, l[i]? = some t0 := ⟨_, List.getElem?_eq_getElem (by omega)⟩
          obtain ⟨t1, m1⟩ : ∃ t1, l[i + 1]? = some t1 := ⟨_, List.getElem?_eq_getElem (by omega)⟩
          obtain ⟨p0, q0, rfl, _⟩ := stoneB_of (so i t0 m0)
          obtain ⟨p1, q1, rfl, _⟩ := stoneB_of (so (i + 1) t1 m1)
          obtain ⟨v0, x0, i0⟩ := p.at m0
          obtain ⟨v1, x1, i1⟩ := p.at m1
          obtain ⟨a0, l0, ys0, e0, rfl, h0, z0⟩ := i0.tup_of rfl
          obtain ⟨a1, l1, ys1, e1, rfl, h1, z1⟩ := i1.tup_of rfl
          cases e0
          cases e1
          obtain ⟨w0, y0, j0⟩ := z0.at (i := 0) rfl
          obtain ⟨w1, y1, j1⟩ := z1.at (i := 0) rfl
          have j0 := j0.toInt
          have j1 := j1.toInt
          subst j0 j1
          refine ⟨_, rfl, _, rfl, a, xs, _, _, rfl, rfl, SqL.of ha, atI_cast (j := i + 1) (by omega) x1, a1, _, 0, _, rfl, rfl, SqT.of h1, atI_cast (j := 0) rfl y1, _, rfl, _, rfl, _, _, rfl, rfl, a, xs, _, _, rfl, rfl, SqL.of ha, atI_cast (j := i) (by omega) x0, a0, _, 0, _, rfl, rfl, SqT.of h0, atI_cast (j := 0) rfl y0, _, _, rfl, rfl, _, rfl, ?_⟩
          by_cases c : p1 ≤ p0
          · rw [decide_eq_true c]
            exact iteT ⟨one_ok, q⟩
          · rw [decide_eq_false c]
            refine iteF ⟨⟨_, _, rfl⟩, rfl, ?_⟩
            by_cases ej : i = j
            · subst ej
              rw [m0] at ex
              rw [m1] at ey
              cases ex
              cases ey
              exact absurd lt c
            · omega
        · rintro σ H3 ⟨_, _, hj⟩
          have := (List.getElem?_eq_some_iff.mp ey).1
          exact absurd hj (by omega)
    · rw [decide_eq_false cl]
      exact iteT ⟨one_ok, q⟩
noncomputable def spCS (eS : Addr) : Sp := fun vs H Q E => ∃ a xs v t, vs = [.ref a, v] ∧ H a = some (.lst xs) ∧ Is H t v ∧ ((∃ i, t = .int i ∧ 0 ≤ i ∧ i < (xs.length : Int) ∧ Q .non H) ∨ (StoneBad xs.length t ∧ ∀ x, H x = none → E (.ref eS) (some x) H))
theorem ok_cs {f : Addr} {fd : FuncData} (F : Fun K "check_stone" "check_stone" sChkStone f fd) (B : Blt mg) (T : Ex K mg eF eR eS eD eT) (d_is_count : Dfn P w K mg base "is_count" 2 ["row", "value"] (spCount K)) : FnOk P w K mg base (CXE P w) 3 f fd ["row", "stone"] (spCS eS) := by
  refine F.okE scChkStone (fun vs H Q E h => ?_) (fun cdv A outer s H vs Q E hr R h => ?_)
  · obtain ⟨a, xs, v, t, rfl, _⟩ := h
    rfl
  · obtain ⟨a, xs, v, t, rfl, ha, i, h⟩ := h
    refine ⟨_, (pss_one (ps_if (pt_not (pt_val (pe_callD d_is_count (hr.mono (by decide)) (by rfl) (pa_cons (pv 0) (pa_cons (pv 1) pa_nil)))))
        (pss_one (ps_raiseE R T.gS T.kS.ex (by rfl) hr.hd (pa_cons pe_str pa_nil)))
        pss_nil)), ?_⟩
    refine ⟨_, rfl, _, rfl, a, xs, _, _, rfl, ha, i.ty, fun j e => ?_, fun z => ?_⟩
    · subst e
      have e := i.ofInt
      subst e
      refine ⟨_, rfl, ?_⟩
      rcases h with ⟨k, e, h0, h1, q⟩ | ⟨bad, q⟩
      · cases e
        rw [decide_eq_true ⟨h0, h1⟩]
        exact iteF q
      · rw [decide_eq_false (bad j rfl)]
        exact iteT ⟨one_ok, q⟩
    · refine ⟨_, rfl, ?_⟩
      rcases h with ⟨k, e, h0, h1, q⟩ | ⟨bad, q⟩
      · subst e
        exact absurd rfl z
      · exact iteT ⟨one_ok, q⟩
noncomputable def spCD (eD : Addr) : Sp := fun vs H Q E => ∃ v t, vs = [v] ∧ Is H t v ∧ ((∃ i, t = .int i ∧ Sd i ∧ Q .non H) ∨ (SideBad t ∧ ∀ x, H x = none → E (.ref eD) (some x) H))
theorem ok_cd {f : Addr} {fd : FuncData} (F : Fun K "check_side" "check_side" sChkSide f fd) (T : Ex K mg eF eR eS eD eT) (d_is_side : Dfn P w K mg base "is_side" 2 ["value"] (spSide K)) : FnOk P w K mg base (CXE P w) 3 f fd ["side"] (spCD eD) := by
  refine F.okE scChkSide (fun vs H Q E h => ?_) (fun cdv A outer s H vs Q E hr R h => ?_)
  · obtain ⟨v, t, rfl, _⟩ := h
    rfl
  · obtain ⟨v, t, rfl, i, h⟩ := h
    refine ⟨_, (pss_one (ps_if (pt_not (pt_val (pe_callD d_is_side (hr.mono (by decide)) (by rfl) (pa_cons (pv 0) pa_nil))))
        (pss_one (ps_raiseE R T.gD T.kD.ex (by rfl) hr.hd (pa_cons pe_str pa_nil)))
        pss_nil)), ?_⟩
    refine ⟨_, rfl, _, _, rfl, i.ty, fun j e => ?_, fun z => ?_⟩
    · subst e
      have e := i.ofInt
      subst e
      refine ⟨_, rfl, ?_⟩
      rcases h with ⟨k, e, hd, q⟩ | ⟨bad, q⟩
      · cases e
        rw [decide_eq_true (show j = 1 ∨ j = -1 from hd)]
        exact iteF q
      · rw [decide_eq_false (show ¬ (j = 1 ∨ j = -1) from bad j rfl)]
        exact iteT ⟨one_ok, q⟩
    · refine ⟨_, rfl, ?_⟩
      rcases h with ⟨k, e, hd, q⟩ | ⟨bad, q⟩
      · subst e
        exact absurd rfl z
      · exact iteT ⟨one_ok, q⟩
noncomputable def spCP (eS eD : Addr) : Sp := fun vs H Q E => ∃ a xs v t, vs = [.ref a, v] ∧ H a = some (.lst xs) ∧ Is H t v ∧ ((PushBad xs.length t ∧ ∀ x, H x = none → E (.ref eS) (some x) H) ∨
  (∃ i y, t = .tup [.int i, y] ∧ 0 ≤ i ∧ i < (xs.length : Int) ∧ SideBad y ∧ ∀ x, H x = none → E (.ref eD) (some x) H) ∨ ∃ i j, t = .tup [.int i, .int j] ∧ 0 ≤ i ∧ i < (xs.length : Int) ∧ Sd j ∧ Q .non H)
theorem scChkPush8 : FnScope ["row", "push"] ["row", "push"] (defScope s_check_push) := ⟨rfl, rfl, rfl, by decide +kernel, rfl, by decide +kernel, by decide +kernel⟩
theorem ok_cp {f : Addr} {fd : FuncData} (F : Fun K "check_push" "check_push" s_check_push f fd) (B : Blt mg) (T : Ex K mg eF eR eS eD eT) (d_is_pair : Dfn P w K mg base "is_pair" 1 ["value"] (spPair K)) (d_cs : DfnE P w K mg base "check_stone" 3 ["row", "stone"] (spCS eS)) (d_cd : DfnE P w K mg base "check_side" 3 ["side"] (spCD eD)) : FnOk P w K mg base (CXE P w) 4 f fd ["row", "push"] (spCP eS eD) := by
  refine F.okE scChkPush8 (fun vs H Q E h => ?_) (fun cdv A outer s H vs Q E hr R h => ?_)
  · obtain ⟨a, xs, v, t, rfl, _⟩ := h
    rfl
  · obtain ⟨a, xs, v, t, rfl, ha, iv, h⟩ := h
    refine ⟨_, (pss_cons (ps_if (pt_not (pt_val (pe_callD d_is_pair (hr.mono (by decide)) (by rfl) (pa_cons (pv 1) pa_nil))))
        (pss_one (ps_raiseE R T.gS T.kS.ex (by rfl) hr.hd (pa_cons pe_str pa_nil)))
        pss_nil)
      (pss_cons (ps_expr (pe_callE d_cs R (hr.mono (by decide)) (by rfl) (pa_cons (pv 0) (pa_cons (pe_ix (ix_tupK K rfl) (pv 1) pe_int (fun _ _ => rfl)) pa_nil))))
      (pss_one (ps_expr (pe_callE d_cd R (hr.mono (by decide)) (by rfl) (pa_cons (pe_ix (ix_tupK K rfl) (pv 1) pe_int (fun _ _ => rfl)) pa_nil)))))), ?_⟩
    refine ⟨_, rfl, _, _, rfl, iv.ty, fun b ys e e2 => ?_, fun z => ⟨_, rfl, ?_⟩⟩
    · subst e
      have tt : tyT t = "tuple" := by
        cases iv with
        | tup e p => rfl
        | lst e p => rw [e] at e2; cases e2
        | dct e => rw [e] at e2; cases e2
      obtain ⟨b', l, ys', rfl, eb, ey, p⟩ := iv.tup_of tt
      cases eb
      rw [ey] at e2
      cases e2
      refine ⟨_, rfl, ?_⟩
      by_cases c : ys.length = 2
      · rw [decide_eq_true c]
        cases p with
        | nil => cases c
        | @cons t0 _ _ _ p0 p =>
          cases p with
          | nil => cases c
          | @cons t1 _ _ _ p1 p =>
            cases p with
            | cons p2 p => simp at c
            | nil =>
              refine iteF ⟨_, rfl, _, rfl, b, _, 0, _, rfl, rfl, SqT.of ey, rfl, a, xs, _, t0, rfl, ha, p0, ?_⟩
              rcases h with ⟨bad, q⟩ | ⟨i, y, e, h0, h1, bad, q⟩ | ⟨i, j, e, h0, h1, hd, q⟩
              · refine .inr ⟨?_, q⟩
                rcases bad with bad | ⟨x, y, e, bad⟩
                · exact absurd rfl (bad t0 t1)
                · cases e
                  exact bad
              · cases e
                exact .inl ⟨i, rfl, h0, h1, _, rfl, b, _, 1, _, rfl, rfl, SqT.of ey, rfl, _, _, rfl, p1, .inr ⟨bad, q⟩⟩
              · cases e
                exact .inl ⟨i, rfl, h0, h1, _, rfl, b, _, 1, _, rfl, rfl, SqT.of ey, rfl, _, _, rfl, p1, .inl ⟨j, rfl, hd, q⟩⟩
      · rw [decide_eq_false c]
        refine iteT ⟨one_ok, ?_⟩
        rcases h with ⟨bad, q⟩ | ⟨i, y, e, _⟩ | ⟨i, j, e, _⟩
        · exact q
        · cases e
          exact absurd p.length.symm c
        · cases e
          exact absurd p.length.symm c
    · refine iteT ⟨one_ok, ?_⟩
      rcases h with ⟨bad, q⟩ | ⟨i, y, e, _⟩ | ⟨i, j, e, _⟩
      · exact q
      · subst e
        exact absurd rfl z
      · subst e
        exact absurd rfl z
end
end Fk

set_option genSizeOf false
set_option genInjectivity false
namespace Fk
open PySem L2 Fm PyProof.Rows
section
variable {P : Program} {w : World} {K : PySem.W.Frag} {mg : Str → Option Value} {base : Heap} {eF eR eS eD eT : Addr}
theorem RowOk.lst {H : Hp} {a : Addr} {r : Row} (x : RowOk H a r) : ∃ xs, H a = some (.lst xs) ∧ xs.length = r.length := by
  obtain ⟨⟨xs, ha, hx⟩, _, _⟩ := x
  exact ⟨xs, ha, hx.length⟩
theorem ok_mirrE {f : Addr} {fd : FuncData} (F : Fun K "mirrored" "mirrored" sMirr f fd) (d_cr : DfnE P w K mg base "check_row" 3 ["row"] (spCR eR)) : FnOk P w K mg base (CXE P w) 4 f fd ["row"] (spCRb eR) := by
  refine F.okE scMirr (fun vs H Q E h => ?_) (fun cdv A outer s H vs Q E hr R h => ?_)
  · obtain ⟨t, v, rfl, _⟩ := h
    rfl
  · obtain ⟨t, v, rfl, i, bad, q⟩ := h
    exact ⟨_, (pss_cons (ps_expr (pe_callE d_cr R (hr.mono (by decide)) (by rfl) (pa_cons (pv 0) pa_nil))) pss_any), _, rfl, .inr ⟨t, v, rfl, i, bad, q⟩⟩
theorem scFew8 : FnScope ["row", "pushes", "stones", "best", "standing", "k", "fall"] ["row"] (defScope s_fewest) := ⟨rfl, rfl, rfl, by decide +kernel, rfl, by decide +kernel, by decide +kernel⟩
theorem ok_fewE {f : Addr} {fd : FuncData} (F : Fun K "fewest" "fewest" s_fewest f fd) (d_cr : DfnE P w K mg base "check_row" 3 ["row"] (spCR eR)) : FnOk P w K mg base (CXE P w) 4 f fd ["row"] (spCRb eR) := by
  refine F.okE scFew8 (fun vs H Q E h => ?_) (fun cdv A outer s H vs Q E hr R h => ?_)
  · obtain ⟨t, v, rfl, _⟩ := h
    rfl
  · obtain ⟨t, v, rfl, i, bad, q⟩ := h
    exact ⟨_, (pss_cons (ps_expr (pe_callE d_cr R (hr.mono (by decide)) (by rfl) (pa_cons (pv 0) pa_nil))) pss_any), _, rfl, .inr ⟨t, v, rfl, i, bad, q⟩⟩
theorem scRig8 : FnScope ["row"] ["row"] (defScope s_rights) := ⟨rfl, rfl, rfl, by decide +kernel, rfl, by decide +kernel, by decide +kernel⟩
theorem ok_rigE {f : Addr} {fd : FuncData} (F : Fun K "rights" "rights" s_rights f fd) (d_cr : DfnE P w K mg base "check_row" 3 ["row"] (spCR eR)) : FnOk P w K mg base (CXE P w) 4 f fd ["row"] (spCRb eR) := by
  refine F.okE scRig8 (fun vs H Q E h => ?_) (fun cdv A outer s H vs Q E hr R h => ?_)
  · obtain ⟨t, v, rfl, _⟩ := h
    rfl
  · obtain ⟨t, v, rfl, i, bad, q⟩ := h
    exact ⟨_, (pss_cons (ps_expr (pe_callE d_cr R (hr.mono (by decide)) (by rfl) (pa_cons (pv 0) pa_nil))) pss_any), _, rfl, .inr ⟨t, v, rfl, i, bad, q⟩⟩
theorem scWri8 : FnScope ["row", "place", "height"] ["row"] (defScope s_written) := ⟨rfl, rfl, rfl, by decide +kernel, rfl, by decide +kernel, by decide +kernel⟩
theorem ok_wriE {f : Addr} {fd : FuncData} (F : Fun K "written" "written" s_written f fd) (d_cr : DfnE P w K mg base "check_row" 3 ["row"] (spCR eR)) : FnOk P w K mg base (CXE P w) 4 f fd ["row"] (spCRb eR) := by
  refine F.okE scWri8 (fun vs H Q E h => ?_) (fun cdv A outer s H vs Q E hr R h => ?_)
  · obtain ⟨t, v, rfl, _⟩ := h
    rfl
  · obtain ⟨t, v, rfl, i, bad, q⟩ := h
    exact ⟨_, (pss_cons (ps_expr (pe_callE d_cr R (hr.mono (by decide)) (by rfl) (pa_cons (pv 0) pa_nil))) pss_any), _, rfl, .inr ⟨t, v, rfl, i, bad, q⟩⟩
noncomputable def spFE (eR eS eD : Addr) : Sp := fun vs H _ E => ∃ v s d, vs = [v, s, d] ∧ ((∃ t, Is H t v ∧ RowBad t ∧ ∀ x, H x = none → E (.ref eR) (some x) H) ∨ (∃ a r t, v = .ref a ∧ RowOk H a r ∧ Is H t s ∧ StoneBad r.length t ∧ ∀ x, H x = none → E (.ref eS) (some x) H) ∨
  ∃ a r i t, v = .ref a ∧ RowOk H a r ∧ s = .int i ∧ 0 ≤ i ∧ i < (r.length : Int) ∧ Is H t d ∧ SideBad t ∧ ∀ x, H x = none → E (.ref eD) (some x) H)
theorem ok_fellE {f : Addr} {fd : FuncData} (F : Fun K "felled" "felled" sFell f fd) (d_cr : DfnE P w K mg base "check_row" 3 ["row"] (spCR eR)) (d_cs : DfnE P w K mg base "check_stone" 3 ["row", "stone"] (spCS eS)) (d_cd : DfnE P w K mg base "check_side" 3 ["side"] (spCD eD)) : FnOk P w K mg base (CXE P w) 4 f fd ["row", "stone", "side"] (spFE eR eS eD) := by
  refine F.okE scFell (fun vs H Q E h => ?_) (fun cdv A outer s H vs Q E hr R h => ?_)
  · obtain ⟨v, s, d, rfl, _⟩ := h
    rfl
  · obtain ⟨v, s, d, rfl, h⟩ := h
    refine ⟨_, (pss_cons (ps_expr (pe_callE d_cr R (hr.mono (by decide)) (by rfl) (pa_cons (pv 0) pa_nil)))
      (pss_cons (ps_expr (pe_callE d_cs R (hr.mono (by decide)) (by rfl) (pa_cons (pv 0) (pa_cons (pv 1) pa_nil))))
      (pss_cons (ps_expr (pe_callE d_cd R (hr.mono (by decide)) (by rfl) (pa_cons (pv 2) pa_nil))) pss_any))), ?_⟩
    rcases h with ⟨t, i, bad, q⟩ | ⟨a, r, t, rfl, G, i, bad, q⟩ | ⟨a, r, j, t, rfl, G, rfl, h0, h1, i, bad, q⟩
    · exact ⟨_, rfl, .inr ⟨t, v, rfl, i, bad, q⟩⟩
    · obtain ⟨xs, ha, hl⟩ := G.lst
      exact ⟨_, rfl, .inl ⟨a, r, rfl, G, _, rfl, _, rfl, a, xs, s, t, rfl, ha, i, .inr ⟨by rw [hl]; exact bad, q⟩⟩⟩
    · obtain ⟨xs, ha, hl⟩ := G.lst
      exact ⟨_, rfl, .inl ⟨a, r, rfl, G, _, rfl, _, rfl, a, xs, _, _, rfl, ha, .int j, .inl ⟨j, rfl, h0, by rw [hl]; exact h1, _, rfl, d, t, rfl, i, .inr ⟨bad, q⟩⟩⟩⟩
noncomputable def spHE (eR eS : Addr) : Sp := fun vs H _ E => ∃ v s, vs = [v, s] ∧ ((∃ t, Is H t v ∧ RowBad t ∧ ∀ x, H x = none → E (.ref eR) (some x) H) ∨ ∃ a r t, v = .ref a ∧ RowOk H a r ∧ Is H t s ∧ StoneBad r.length t ∧ ∀ x, H x = none → E (.ref eS) (some x) H)
theorem scHig8 : FnScope ["row", "stone", "number", "lacking", "farthest", "k"] ["row", "stone"] (defScope s_higher) := ⟨rfl, rfl, rfl, by decide +kernel, rfl, by decide +kernel, by decide +kernel⟩
theorem ok_higE {f : Addr} {fd : FuncData} (F : Fun K "higher" "higher" s_higher f fd) (d_cr : DfnE P w K mg base "check_row" 3 ["row"] (spCR eR)) (d_cs : DfnE P w K mg base "check_stone" 3 ["row", "stone"] (spCS eS)) : FnOk P w K mg base (CXE P w) 4 f fd ["row", "stone"] (spHE eR eS) := by
  refine F.okE scHig8 (fun vs H Q E h => ?_) (fun cdv A outer s H vs Q E hr R h => ?_)
  · obtain ⟨v, s, rfl, _⟩ := h
    rfl
  · obtain ⟨v, s, rfl, h⟩ := h
    refine ⟨_, (pss_cons (ps_expr (pe_callE d_cr R (hr.mono (by decide)) (by rfl) (pa_cons (pv 0) pa_nil)))
      (pss_cons (ps_expr (pe_callE d_cs R (hr.mono (by decide)) (by rfl) (pa_cons (pv 0) (pa_cons (pv 1) pa_nil)))) pss_any)), ?_⟩
    rcases h with ⟨t, i, bad, q⟩ | ⟨a, r, t, rfl, G, i, bad, q⟩
    · exact ⟨_, rfl, .inr ⟨t, v, rfl, i, bad, q⟩⟩
    · obtain ⟨xs, ha, hl⟩ := G.lst
      exact ⟨_, rfl, .inl ⟨a, r, rfl, G, _, rfl, _, rfl, a, xs, s, t, rfl, ha, i, .inr ⟨by rw [hl]; exact bad, q⟩⟩⟩
noncomputable def spRE (eR eS eD : Addr) : Sp := fun vs H _ E => ∃ v p s, vs = [v, p, s] ∧ ((∃ t, Is H t v ∧ RowBad t ∧ ∀ x, H x = none → E (.ref eR) (some x) H) ∨ ∃ a r t, v = .ref a ∧ RowOk H a r ∧ Is H t p ∧ ((PushBad r.length t ∧ ∀ x, H x = none → E (.ref eS) (some x) H) ∨
  (∃ i y, t = .tup [.int i, y] ∧ 0 ≤ i ∧ i < (r.length : Int) ∧ SideBad y ∧ ∀ x, H x = none → E (.ref eD) (some x) H) ∨ ∃ i j u, t = .tup [.int i, .int j] ∧ 0 ≤ i ∧ i < (r.length : Int) ∧ Sd j ∧ Is H u s ∧ StoneBad r.length u ∧ ∀ x, H x = none → E (.ref eS) (some x) H))
theorem scRea8 : FnScope ["row", "push", "stone", "pushed", "side", "knockers", "farthest", "k"] ["row", "push", "stone"] (defScope s_reached) := ⟨rfl, rfl, rfl, by decide +kernel, rfl, by decide +kernel, by decide +kernel⟩
theorem ok_reaE {f : Addr} {fd : FuncData} (F : Fun K "reached" "reached" s_reached f fd) (d_cr : DfnE P w K mg base "check_row" 3 ["row"] (spCR eR)) (d_cp : DfnE P w K mg base "check_push" 4 ["row", "push"] (spCP eS eD)) (d_cs : DfnE P w K mg base "check_stone" 3 ["row", "stone"] (spCS eS)) : FnOk P w K mg base (CXE P w) 5 f fd ["row", "push", "stone"] (spRE eR eS eD) := by
  refine F.okE scRea8 (fun vs H Q E h => ?_) (fun cdv A outer s H vs Q E hr R h => ?_)
  · obtain ⟨v, p, s, rfl, _⟩ := h
    rfl
  · obtain ⟨v, p, s, rfl, h⟩ := h
    refine ⟨_, (pss_cons (ps_expr (pe_callE d_cr R (hr.mono (by decide)) (by rfl) (pa_cons (pv 0) pa_nil)))
      (pss_cons (ps_expr (pe_callE d_cp R (hr.mono (by decide)) (by rfl) (pa_cons (pv 0) (pa_cons (pv 1) pa_nil))))
      (pss_cons (ps_expr (pe_callE d_cs R (hr.mono (by decide)) (by rfl) (pa_cons (pv 0) (pa_cons (pv 2) pa_nil)))) pss_any))), ?_⟩
    rcases h with ⟨t, i, bad, q⟩ | ⟨a, r, t, rfl, G, i, h⟩
    · exact ⟨_, rfl, .inr ⟨t, v, rfl, i, bad, q⟩⟩
    · obtain ⟨xs, ha, hl⟩ := G.lst
      refine ⟨_, rfl, .inl ⟨a, r, rfl, G, _, rfl, _, rfl, a, xs, p, t, rfl, ha, i, ?_⟩⟩
      rw [← hl] at h
      rcases h with ⟨bad, q⟩ | ⟨k, y, e, h0, h1, bad, q⟩ | ⟨k, j, u, e, h0, h1, hd, iu, bad, q⟩
      · exact .inl ⟨bad, q⟩
      · exact .inr (.inl ⟨k, y, e, h0, h1, bad, q⟩)
      · exact .inr (.inr ⟨k, j, e, h0, h1, hd, _, rfl, _, rfl, a, xs, s, u, rfl, ha, iu, .inr ⟨bad, q⟩⟩)
end
end Fk

set_option genSizeOf false
set_option genInjectivity false
namespace Fk
open PySem L2 Fm PyProof.Rows
noncomputable def spThings (R : Tm → Prop) (n : Nat) : Sp := fun vs H Q _ => ∃ c, vs = [.int c] ∧ 0 ≤ c ∧ ∀ v H' l, Same H H' → Is H' (.lst l) v → l.length = n → (∀ t ∈ l, R t) → Q v H'
noncomputable def rows1 (c : Int) : List Tm := [.non, .tup [], .tup [.tup [.int 0, .int 1]], .str, .dct, .int 5, .lst [.int 5], .lst [.non], .lst [.tup [.int 0]], .lst [.tup [.int 0, .int 1, .int 2]], .lst [.lst [.int 0, .int 1]], .lst [.tup [.int 0, .int 0]], .lst [.tup [.int 0, .int (-1 - c)]]]
theorem rows1_bad {c : Int} (hc : 0 ≤ c) : ∀ t ∈ rows1 c, RowBad t := (List.forall_mem_cons.mpr ⟨.inl (by decide), (List.forall_mem_cons.mpr ⟨.inl (by decide), (List.forall_mem_cons.mpr ⟨.inl (by decide), (List.forall_mem_cons.mpr ⟨.inl (by decide), (List.forall_mem_cons.mpr ⟨.inl (by decide), (List.forall_mem_cons.mpr ⟨.inl (by decide), (List.forall_mem_cons.mpr ⟨.inr ⟨_, rfl, Nat.le_of_ble_eq_true rfl, .inl ⟨0, _, rfl, rfl⟩⟩, (List.forall_mem_cons.mpr ⟨.inr ⟨_, rfl, Nat.le_of_ble_eq_true rfl, .inl ⟨0, _, rfl, rfl⟩⟩, (List.forall_mem_cons.mpr ⟨.inr ⟨_, rfl, Nat.le_of_ble_eq_true rfl, .inl ⟨0, _, rfl, rfl⟩⟩, (List.forall_mem_cons.mpr ⟨.inr ⟨_, rfl, Nat.le_of_ble_eq_true rfl, .inl ⟨0, _, rfl, rfl⟩⟩, (List.forall_mem_cons.mpr ⟨.inr ⟨_, rfl, Nat.le_of_ble_eq_true rfl, .inl ⟨0, _, rfl, rfl⟩⟩, (List.forall_mem_cons.mpr ⟨.inr ⟨_, rfl, Nat.le_of_ble_eq_true rfl, .inl ⟨0, _, rfl, rfl⟩⟩, (List.forall_mem_cons.mpr ⟨.inr ⟨_, rfl, Nat.le_of_ble_eq_true rfl, .inl ⟨0, _, rfl, (decide_eq_false (by omega))⟩⟩, (List.forall_mem_nil _)⟩)⟩)⟩)⟩)⟩)⟩)⟩)⟩)⟩)⟩)⟩)⟩)⟩)
noncomputable def rows2 (c : Int) : List Tm := [.lst [.tup [.bl true, .int 1]], .lst [.tup [.int 0, .bl true]], .lst [.tup [.str, .int 1]], .lst [.tup [.int 0, .non]], .lst [.tup [.int 0, .int 1], .tup [.int 0, .int 1]], .lst [.tup [.int 1, .int 1], .tup [.int 0, .int 1]], .lst [.tup [.int (c), .int 0]]]
theorem rows2_bad {c : Int} (hc : 0 ≤ c) : ∀ t ∈ rows2 c, RowBad t := (List.forall_mem_cons.mpr ⟨.inr ⟨_, rfl, Nat.le_of_ble_eq_true rfl, .inl ⟨0, _, rfl, rfl⟩⟩, (List.forall_mem_cons.mpr ⟨.inr ⟨_, rfl, Nat.le_of_ble_eq_true rfl, .inl ⟨0, _, rfl, rfl⟩⟩, (List.forall_mem_cons.mpr ⟨.inr ⟨_, rfl, Nat.le_of_ble_eq_true rfl, .inl ⟨0, _, rfl, rfl⟩⟩, (List.forall_mem_cons.mpr ⟨.inr ⟨_, rfl, Nat.le_of_ble_eq_true rfl, .inl ⟨0, _, rfl, rfl⟩⟩, (List.forall_mem_cons.mpr ⟨.inr ⟨_, rfl, Nat.le_of_ble_eq_true rfl, .inr ⟨0, _, _, rfl, rfl, (show (0 : Int) ≤ 0 by decide)⟩⟩, (List.forall_mem_cons.mpr ⟨.inr ⟨_, rfl, Nat.le_of_ble_eq_true rfl, .inr ⟨0, _, _, rfl, rfl, (show (0 : Int) ≤ 1 by decide)⟩⟩, (List.forall_mem_cons.mpr ⟨.inr ⟨_, rfl, Nat.le_of_ble_eq_true rfl, .inl ⟨0, _, rfl, rfl⟩⟩, (List.forall_mem_nil _)⟩)⟩)⟩)⟩)⟩)⟩)⟩)
noncomputable def rows3 (c : Int) : List Tm := [.lst [.tup [.int 0, .int 1], .tup [.int 1, .int 1], .tup [.int 1, .int 2]], .lst [.tup [.int (c), .int 1], .tup [.int (c - 1), .int 1]], .lst [.tup [.int 0, .int 1], .tup [.int 5, .int 1], .tup [.int 7, .int 0]], .lst [.tup [.int 0, .int 1], .int 7]]
theorem rows3_bad {c : Int} (hc : 0 ≤ c) : ∀ t ∈ rows3 c, RowBad t := (List.forall_mem_cons.mpr ⟨.inr ⟨_, rfl, Nat.le_of_ble_eq_true rfl, .inr ⟨1, _, _, rfl, rfl, (show (1 : Int) ≤ 1 by decide)⟩⟩, (List.forall_mem_cons.mpr ⟨.inr ⟨_, rfl, Nat.le_of_ble_eq_true rfl, .inr ⟨0, _, _, rfl, rfl, (show c - 1 ≤ c by omega)⟩⟩, (List.forall_mem_cons.mpr ⟨.inr ⟨_, rfl, Nat.le_of_ble_eq_true rfl, .inl ⟨2, _, rfl, rfl⟩⟩, (List.forall_mem_cons.mpr ⟨.inr ⟨_, rfl, Nat.le_of_ble_eq_true rfl, .inl ⟨1, _, rfl, rfl⟩⟩, (List.forall_mem_nil _)⟩)⟩)⟩)⟩)
noncomputable def stns (c : Int) : List Tm := [.non, .int (-1), .int (-1 - c), .int 3, .int (3 + c), .bl true, .str, .lst [.int 1], .tup [.int 0], .dct]
theorem stns_bad {c : Int} (hc : 0 ≤ c) : ∀ t ∈ stns c, StoneBad 3 t := (List.forall_mem_cons.mpr ⟨(fun i e => by cases e), (List.forall_mem_cons.mpr ⟨(fun i e => by cases e; omega), (List.forall_mem_cons.mpr ⟨(fun i e => by cases e; omega), (List.forall_mem_cons.mpr ⟨(fun i e => by cases e; omega), (List.forall_mem_cons.mpr ⟨(fun i e => by cases e; omega), (List.forall_mem_cons.mpr ⟨(fun i e => by cases e), (List.forall_mem_cons.mpr ⟨(fun i e => by cases e), (List.forall_mem_cons.mpr ⟨(fun i e => by cases e), (List.forall_mem_cons.mpr ⟨(fun i e => by cases e), (List.forall_mem_cons.mpr ⟨(fun i e => by cases e), (List.forall_mem_nil _)⟩)⟩)⟩)⟩)⟩)⟩)⟩)⟩)⟩)⟩)
noncomputable def sds (c : Int) : List Tm := [.non, .int 0, .int 2, .int (2 + c), .int (-2 - c), .bl true, .str, .lst [.int 1], .dct]
theorem sds_bad {c : Int} (hc : 0 ≤ c) : ∀ t ∈ sds c, SideBad t := (List.forall_mem_cons.mpr ⟨(fun i e => by cases e), (List.forall_mem_cons.mpr ⟨(fun i e h => by cases e; unfold Sd at h; omega), (List.forall_mem_cons.mpr ⟨(fun i e h => by cases e; unfold Sd at h; omega), (List.forall_mem_cons.mpr ⟨(fun i e h => by cases e; unfold Sd at h; omega), (List.forall_mem_cons.mpr ⟨(fun i e h => by cases e; unfold Sd at h; omega), (List.forall_mem_cons.mpr ⟨(fun i e => by cases e), (List.forall_mem_cons.mpr ⟨(fun i e => by cases e), (List.forall_mem_cons.mpr ⟨(fun i e => by cases e), (List.forall_mem_cons.mpr ⟨(fun i e => by cases e), (List.forall_mem_nil _)⟩)⟩)⟩)⟩)⟩)⟩)⟩)⟩)⟩)
noncomputable def pshs (c : Int) : List Tm := [.non, .int 1, .tup [.int 1], .tup [.int 1, .int 1, .int 1], .lst [.int 1, .int 1], .str, .tup [.int 3, .int 1], .tup [.int (-1 - c), .int 1], .tup [.non, .int 0], .dct]
theorem pshs_bad {c : Int} (hc : 0 ≤ c) : ∀ t ∈ pshs c, PushBad 3 t := (List.forall_mem_cons.mpr ⟨.inl (fun x y e => by cases e), (List.forall_mem_cons.mpr ⟨.inl (fun x y e => by cases e), (List.forall_mem_cons.mpr ⟨.inl (fun x y e => by cases e), (List.forall_mem_cons.mpr ⟨.inl (fun x y e => by cases e), (List.forall_mem_cons.mpr ⟨.inl (fun x y e => by cases e), (List.forall_mem_cons.mpr ⟨.inl (fun x y e => by cases e), (List.forall_mem_cons.mpr ⟨.inr ⟨_, _, rfl, (fun i e => by cases e; omega)⟩, (List.forall_mem_cons.mpr ⟨.inr ⟨_, _, rfl, (fun i e => by cases e; omega)⟩, (List.forall_mem_cons.mpr ⟨.inr ⟨_, _, rfl, (fun i e => by cases e)⟩, (List.forall_mem_cons.mpr ⟨.inl (fun x y e => by cases e), (List.forall_mem_nil _)⟩)⟩)⟩)⟩)⟩)⟩)⟩)⟩)⟩)⟩)
section
variable {P : Program} {w : World} {K : PySem.W.Frag} {mg : Str → Option Value} {base : Heap}
theorem sc_stns : FnScope ["_law_cell"] ["_law_cell"] (defScope s_law_stones) := ⟨rfl, rfl, rfl, by decide +kernel, rfl, by decide +kernel, by decide +kernel⟩
theorem ok_stns {f : Addr} {fd : FuncData} (F : Fun K "_law_stones" "_law_stones" s_law_stones f fd) : FnOk P w K mg base CX0 1 f fd ["_law_cell"] (spThings (StoneBad 3) 10) := by
  refine F.ok sc_stns (fun vs H Q E h => ?_) (fun cdv A outer s H vs Q E hr h => ?_)
  · obtain ⟨c, rfl, _⟩ := h
    rfl
  · obtain ⟨c, rfl, hc, q⟩ := h
    refine ⟨tRet (tSh c (.lst (stns c))), ?_, ?_⟩
    · refine pss_one ?_
      refine ps_ret ?_
      unfold stns
      refine sh_lst ?_ ?_
      exact Nat.le_of_ble_eq_true rfl
      refine sa_cons ?_ ?_ ?_
      exact ns_con
      exact sh_non
      refine sa_cons ?_ ?_ ?_
      exact ns_un
      refine sh_neg ?_
      exact sh_int
      refine sa_cons ?_ ?_ ?_
      exact ns_bin
      refine sh_sub ?_ ?_
      refine sh_neg ?_
      exact sh_int
      exact sh_cell (pv 0)
      refine sa_cons ?_ ?_ ?_
      exact ns_con
      exact sh_int
      refine sa_cons ?_ ?_ ?_
      exact ns_bin
      refine sh_add ?_ ?_
      exact sh_int
      exact sh_cell (pv 0)
      refine sa_cons ?_ ?_ ?_
      exact ns_con
      exact sh_bl
      refine sa_cons ?_ ?_ ?_
      exact ns_con
      exact sh_str
      refine sa_cons ?_ ?_ ?_
      exact ns_lst
      refine sh_lst ?_ ?_
      exact Nat.le_of_ble_eq_true rfl
      refine sa_cons ?_ ?_ ?_
      exact ns_con
      exact sh_int
      exact sa_nil
      refine sa_cons ?_ ?_ ?_
      exact ns_tup
      refine sh_tup ?_ ?_
      exact Nat.le_of_ble_eq_true rfl
      refine sa_cons ?_ ?_ ?_
      exact ns_con
      exact sh_int
      exact sa_nil
      refine sa_cons ?_ ?_ ?_
      exact ns_dct
      exact sh_dct
      exact sa_nil
    · exact ⟨rfl, fun v H' s i => q v H' _ s i rfl (stns_bad hc)⟩
theorem sc_sds : FnScope ["_law_cell"] ["_law_cell"] (defScope s_law_sides) := ⟨rfl, rfl, rfl, by decide +kernel, rfl, by decide +kernel, by decide +kernel⟩
theorem ok_sds {f : Addr} {fd : FuncData} (F : Fun K "_law_sides" "_law_sides" s_law_sides f fd) : FnOk P w K mg base CX0 1 f fd ["_law_cell"] (spThings SideBad 9) := by
  refine F.ok sc_sds (fun vs H Q E h => ?_) (fun cdv A outer s H vs Q E hr h => ?_)
  · obtain ⟨c, rfl, _⟩ := h
    rfl
  · obtain ⟨c, rfl, hc, q⟩ := h
    refine ⟨tRet (tSh c (.lst (sds c))), ?_, ?_⟩
    · refine pss_one ?_
      refine ps_ret ?_
      unfold sds
      refine sh_lst ?_ ?_
      exact Nat.le_of_ble_eq_true rfl
      refine sa_cons ?_ ?_ ?_
      exact ns_con
      exact sh_non
      refine sa_cons ?_ ?_ ?_
      exact ns_con
      exact sh_int
      refine sa_cons ?_ ?_ ?_
      exact ns_con
      exact sh_int
      refine sa_cons ?_ ?_ ?_
      exact ns_bin
      refine sh_add ?_ ?_
      exact sh_int
      exact sh_cell (pv 0)
      refine sa_cons ?_ ?_ ?_
      exact ns_bin
      refine sh_sub ?_ ?_
      refine sh_neg ?_
      exact sh_int
      exact sh_cell (pv 0)
      refine sa_cons ?_ ?_ ?_
      exact ns_con
      exact sh_bl
      refine sa_cons ?_ ?_ ?_
      exact ns_con
      exact sh_str
      refine sa_cons ?_ ?_ ?_
      exact ns_lst
      refine sh_lst ?_ ?_
      exact Nat.le_of_ble_eq_true rfl
      refine sa_cons ?_ ?_ ?_
      exact ns_con
      exact sh_int
      exact sa_nil
      refine sa_cons ?_ ?_ ?_
      exact ns_dct
      exact sh_dct
      exact sa_nil
    · exact ⟨rfl, fun v H' s i => q v H' _ s i rfl (sds_bad hc)⟩
theorem sc_pshs : FnScope ["_law_cell"] ["_law_cell"] (defScope s_law_pushes) := ⟨rfl, rfl, rfl, by decide +kernel, rfl, by decide +kernel, by decide +kernel⟩
theorem ok_pshs {f : Addr} {fd : FuncData} (F : Fun K "_law_pushes" "_law_pushes" s_law_pushes f fd) : FnOk P w K mg base CX0 1 f fd ["_law_cell"] (spThings (PushBad 3) 10) := by
  refine F.ok sc_pshs (fun vs H Q E h => ?_) (fun cdv A outer s H vs Q E hr h => ?_)
  · obtain ⟨c, rfl, _⟩ := h
    rfl
  · obtain ⟨c, rfl, hc, q⟩ := h
    refine ⟨tRet (tSh c (.lst (pshs c))), ?_, ?_⟩
    · refine pss_one ?_
      refine ps_ret ?_
      unfold pshs
      refine sh_lst ?_ ?_
      exact Nat.le_of_ble_eq_true rfl
      refine sa_cons ?_ ?_ ?_
      exact ns_con
      exact sh_non
      refine sa_cons ?_ ?_ ?_
      exact ns_con
      exact sh_int
      refine sa_cons ?_ ?_ ?_
      exact ns_tup
      refine sh_tup ?_ ?_
      exact Nat.le_of_ble_eq_true rfl
      refine sa_cons ?_ ?_ ?_
      exact ns_con
      exact sh_int
      exact sa_nil
      refine sa_cons ?_ ?_ ?_
      exact ns_tup
      refine sh_tup ?_ ?_
      exact Nat.le_of_ble_eq_true rfl
      refine sa_cons ?_ ?_ ?_
      exact ns_con
      exact sh_int
      refine sa_cons ?_ ?_ ?_
      exact ns_con
      exact sh_int
      refine sa_cons ?_ ?_ ?_
      exact ns_con
      exact sh_int
      exact sa_nil
      refine sa_cons ?_ ?_ ?_
      exact ns_lst
      refine sh_lst ?_ ?_
      exact Nat.le_of_ble_eq_true rfl
      refine sa_cons ?_ ?_ ?_
      exact ns_con
      exact sh_int
      refine sa_cons ?_ ?_ ?_
      exact ns_con
      exact sh_int
      exact sa_nil
      refine sa_cons ?_ ?_ ?_
      exact ns_con
      exact sh_str
      refine sa_cons ?_ ?_ ?_
      exact ns_tup
      refine sh_tup ?_ ?_
      exact Nat.le_of_ble_eq_true rfl
      refine sa_cons ?_ ?_ ?_
      exact ns_con
      exact sh_int
      refine sa_cons ?_ ?_ ?_
      exact ns_con
      exact sh_int
      exact sa_nil
      refine sa_cons ?_ ?_ ?_
      exact ns_tup
      refine sh_tup ?_ ?_
      exact Nat.le_of_ble_eq_true rfl
      refine sa_cons ?_ ?_ ?_
      exact ns_bin
      refine sh_sub ?_ ?_
      refine sh_neg ?_
      exact sh_int
      exact sh_cell (pv 0)
      refine sa_cons ?_ ?_ ?_
      exact ns_con
      exact sh_int
      exact sa_nil
      refine sa_cons ?_ ?_ ?_
      exact ns_tup
      refine sh_tup ?_ ?_
      exact Nat.le_of_ble_eq_true rfl
      refine sa_cons ?_ ?_ ?_
      exact ns_con
      exact sh_non
      refine sa_cons ?_ ?_ ?_
      exact ns_con
      exact sh_int
      exact sa_nil
      refine sa_cons ?_ ?_ ?_
      exact ns_dct
      exact sh_dct
      exact sa_nil
    · exact ⟨rfl, fun v H' s i => q v H' _ s i rfl (pshs_bad hc)⟩
theorem sc_rows : FnScope ["_law_cell", "_law_some"] ["_law_cell"] (defScope s_law_rows) := ⟨rfl, rfl, rfl, by decide +kernel, rfl, by decide +kernel, by decide +kernel⟩
theorem ok_rows {f : Addr} {fd : FuncData} (F : Fun K "_law_rows" "_law_rows" s_law_rows f fd) : FnOk P w K mg base CX0 1 f fd ["_law_cell"] (spThings RowBad 24) := by
  refine F.ok sc_rows (fun vs H Q E h => ?_) (fun cdv A outer s H vs Q E hr h => ?_)
  · obtain ⟨c, rfl, _⟩ := h
    rfl
  · obtain ⟨c, rfl, hc, q⟩ := h
    refine ⟨tSeq (tAsg (tSh c (.lst (rows1 c))) (gName 1)) (tSeq (tAsg (tOp rCat (tVar 1) (tSh c (.lst (rows2 c)))) (gName 1)) (tRet (tOp rCat (tVar 1) (tSh c (.lst (rows3 c)))))), ?_, ?_⟩
    · refine pss_cons ?_ ?_
      refine ps_set (i := 1) ?_ ?_ ?_ ?_ ?_ ?_
      exact sc_rows.nd
      exact rfl
      exact Or.inl rfl
      unfold rows1
      refine sh_lst ?_ ?_
      exact Nat.le_of_ble_eq_true rfl
      refine sa_cons ?_ ?_ ?_
      exact ns_con
      exact sh_non
      refine sa_cons ?_ ?_ ?_
      exact ns_tup
      refine sh_tup ?_ ?_
      exact Nat.le_of_ble_eq_true rfl
      exact sa_nil
      refine sa_cons ?_ ?_ ?_
      exact ns_tup
      refine sh_tup ?_ ?_
      exact Nat.le_of_ble_eq_true rfl
      refine sa_cons ?_ ?_ ?_
      exact ns_tup
      refine sh_tup ?_ ?_
      exact Nat.le_of_ble_eq_true rfl
      refine sa_cons ?_ ?_ ?_
      exact ns_con
      exact sh_int
      refine sa_cons ?_ ?_ ?_
      exact ns_con
      exact sh_int
      exact sa_nil
      exact sa_nil
      refine sa_cons ?_ ?_ ?_
      exact ns_con
      exact sh_str
      refine sa_cons ?_ ?_ ?_
      exact ns_dct
      exact sh_dct
      refine sa_cons ?_ ?_ ?_
      exact ns_con
      exact sh_int
      refine sa_cons ?_ ?_ ?_
      exact ns_lst
      refine sh_lst ?_ ?_
      exact Nat.le_of_ble_eq_true rfl
      refine sa_cons ?_ ?_ ?_
      exact ns_con
      exact sh_int
      exact sa_nil
      refine sa_cons ?_ ?_ ?_
      exact ns_lst
      refine sh_lst ?_ ?_
      exact Nat.le_of_ble_eq_true rfl
      refine sa_cons ?_ ?_ ?_
      exact ns_con
      exact sh_non
      exact sa_nil
      refine sa_cons ?_ ?_ ?_
      exact ns_lst
      refine sh_lst ?_ ?_
      exact Nat.le_of_ble_eq_true rfl
      refine sa_cons ?_ ?_ ?_
      exact ns_tup
      refine sh_tup ?_ ?_
      exact Nat.le_of_ble_eq_true rfl
      refine sa_cons ?_ ?_ ?_
      exact ns_con
      exact sh_int
      exact sa_nil
      exact sa_nil
      refine sa_cons ?_ ?_ ?_
      exact ns_lst
      refine sh_lst ?_ ?_
      exact Nat.le_of_ble_eq_true rfl
      refine sa_cons ?_ ?_ ?_
      exact ns_tup
      refine sh_tup ?_ ?_
      exact Nat.le_of_ble_eq_true rfl
      refine sa_cons ?_ ?_ ?_
      exact ns_con
      exact sh_int
      refine sa_cons ?_ ?_ ?_
      exact ns_con
      exact sh_int
      refine sa_cons ?_ ?_ ?_
      exact ns_con
      exact sh_int
      exact sa_nil
      exact sa_nil
      refine sa_cons ?_ ?_ ?_
      exact ns_lst
      refine sh_lst ?_ ?_
      exact Nat.le_of_ble_eq_true rfl
      refine sa_cons ?_ ?_ ?_
      exact ns_lst
      refine sh_lst ?_ ?_
      exact Nat.le_of_ble_eq_true rfl
      refine sa_cons ?_ ?_ ?_
      exact ns_con
      exact sh_int
      refine sa_cons ?_ ?_ ?_
      exact ns_con
      exact sh_int
      exact sa_nil
      exact sa_nil
      refine sa_cons ?_ ?_ ?_
      exact ns_lst
      refine sh_lst ?_ ?_
      exact Nat.le_of_ble_eq_true rfl
      refine sa_cons ?_ ?_ ?_
      exact ns_tup
      refine sh_tup ?_ ?_
      exact Nat.le_of_ble_eq_true rfl
      refine sa_cons ?_ ?_ ?_
      exact ns_con
      exact sh_int
      refine sa_cons ?_ ?_ ?_
      exact ns_con
      exact sh_int
      exact sa_nil
      exact sa_nil
      refine sa_cons ?_ ?_ ?_
      exact ns_lst
      refine sh_lst ?_ ?_
      exact Nat.le_of_ble_eq_true rfl
      refine sa_cons ?_ ?_ ?_
      exact ns_tup
      refine sh_tup ?_ ?_
      exact Nat.le_of_ble_eq_true rfl
      refine sa_cons ?_ ?_ ?_
      exact ns_con
      exact sh_int
      refine sa_cons ?_ ?_ ?_
      exact ns_bin
      refine sh_sub ?_ ?_
      refine sh_neg ?_
      exact sh_int
      exact sh_cell (pv 0)
      exact sa_nil
      exact sa_nil
      exact sa_nil
      exact rfl
      exact .inl rfl
      refine pss_cons ?_ ?_
      refine ps_set (i := 1) ?_ ?_ ?_ ?_ ?_ ?_
      exact sc_rows.nd
      exact rfl
      exact Or.inl rfl
      refine pe_op ?_ ?_ ?_
      exact op_cat
      exact pv 1
      unfold rows2
      refine sh_lst ?_ ?_
      exact Nat.le_of_ble_eq_true rfl
      refine sa_cons ?_ ?_ ?_
      exact ns_lst
      refine sh_lst ?_ ?_
      exact Nat.le_of_ble_eq_true rfl
      refine sa_cons ?_ ?_ ?_
      exact ns_tup
      refine sh_tup ?_ ?_
      exact Nat.le_of_ble_eq_true rfl
      refine sa_cons ?_ ?_ ?_
      exact ns_con
      exact sh_bl
      refine sa_cons ?_ ?_ ?_
      exact ns_con
      exact sh_int
      exact sa_nil
      exact sa_nil
      refine sa_cons ?_ ?_ ?_
      exact ns_lst
      refine sh_lst ?_ ?_
      exact Nat.le_of_ble_eq_true rfl
      refine sa_cons ?_ ?_ ?_
      exact ns_tup
      refine sh_tup ?_ ?_
      exact Nat.le_of_ble_eq_true rfl
      refine sa_cons ?_ ?_ ?_
      exact ns_con
      exact sh_int
      refine sa_cons ?_ ?_ ?_
      exact ns_con
      exact sh_bl
      exact sa_nil
      exact sa_nil
      refine sa_cons ?_ ?_ ?_
      exact ns_lst
      refine sh_lst ?_ ?_
      exact Nat.le_of_ble_eq_true rfl
      refine sa_cons ?_ ?_ ?_
      exact ns_tup
      refine sh_tup ?_ ?_
      exact Nat.le_of_ble_eq_true rfl
      refine sa_cons ?_ ?_ ?_
      exact ns_con
      exact sh_str
      refine sa_cons ?_ ?_ ?_
      exact ns_con
      exact sh_int
      exact sa_nil
      exact sa_nil
      refine sa_cons ?_ ?_ ?_
      exact ns_lst
      refine sh_lst ?_ ?_
      exact Nat.le_of_ble_eq_true rfl
      refine sa_cons ?_ ?_ ?_
      exact ns_tup
      refine sh_tup ?_ ?_
      exact Nat.le_of_ble_eq_true rfl
      refine sa_cons ?_ ?_ ?_
      exact ns_con
      exact sh_int
      refine sa_cons ?_ ?_ ?_
      exact ns_con
      exact sh_non
      exact sa_nil
      exact sa_nil
      refine sa_cons ?_ ?_ ?_
      exact ns_lst
      refine sh_lst ?_ ?_
      exact Nat.le_of_ble_eq_true rfl
      refine sa_cons ?_ ?_ ?_
      exact ns_tup
      refine sh_tup ?_ ?_
      exact Nat.le_of_ble_eq_true rfl
      refine sa_cons ?_ ?_ ?_
      exact ns_con
      exact sh_int
      refine sa_cons ?_ ?_ ?_
      exact ns_con
      exact sh_int
      exact sa_nil
      refine sa_cons ?_ ?_ ?_
      exact ns_tup
      refine sh_tup ?_ ?_
      exact Nat.le_of_ble_eq_true rfl
      refine sa_cons ?_ ?_ ?_
      exact ns_con
      exact sh_int
      refine sa_cons ?_ ?_ ?_
      exact ns_con
      exact sh_int
      exact sa_nil
      exact sa_nil
      refine sa_cons ?_ ?_ ?_
      exact ns_lst
      refine sh_lst ?_ ?_
      exact Nat.le_of_ble_eq_true rfl
      refine sa_cons ?_ ?_ ?_
      exact ns_tup
      refine sh_tup ?_ ?_
      exact Nat.le_of_ble_eq_true rfl
      refine sa_cons ?_ ?_ ?_
      exact ns_con
      exact sh_int
      refine sa_cons ?_ ?_ ?_
      exact ns_con
      exact sh_int
      exact sa_nil
      refine sa_cons ?_ ?_ ?_
      exact ns_tup
      refine sh_tup ?_ ?_
      exact Nat.le_of_ble_eq_true rfl
      refine sa_cons ?_ ?_ ?_
      exact ns_con
      exact sh_int
      refine sa_cons ?_ ?_ ?_
      exact ns_con
      exact sh_int
      exact sa_nil
      exact sa_nil
      refine sa_cons ?_ ?_ ?_
      exact ns_lst
      refine sh_lst ?_ ?_
      exact Nat.le_of_ble_eq_true rfl
      refine sa_cons ?_ ?_ ?_
      exact ns_tup
      refine sh_tup ?_ ?_
      exact Nat.le_of_ble_eq_true rfl
      refine sa_cons ?_ ?_ ?_
      exact ns_name
      exact sh_cell (pv 0)
      refine sa_cons ?_ ?_ ?_
      exact ns_con
      exact sh_int
      exact sa_nil
      exact sa_nil
      exact sa_nil
      exact rfl
      exact .inl rfl
      refine pss_one ?_
      refine ps_ret ?_
      refine pe_op ?_ ?_ ?_
      exact op_cat
      exact pv 1
      unfold rows3
      refine sh_lst ?_ ?_
      exact Nat.le_of_ble_eq_true rfl
      refine sa_cons ?_ ?_ ?_
      exact ns_lst
      refine sh_lst ?_ ?_
      exact Nat.le_of_ble_eq_true rfl
      refine sa_cons ?_ ?_ ?_
      exact ns_tup
      refine sh_tup ?_ ?_
      exact Nat.le_of_ble_eq_true rfl
      refine sa_cons ?_ ?_ ?_
      exact ns_con
      exact sh_int
      refine sa_cons ?_ ?_ ?_
      exact ns_con
      exact sh_int
      exact sa_nil
      refine sa_cons ?_ ?_ ?_
      exact ns_tup
      refine sh_tup ?_ ?_
      exact Nat.le_of_ble_eq_true rfl
      refine sa_cons ?_ ?_ ?_
      exact ns_con
      exact sh_int
      refine sa_cons ?_ ?_ ?_
      exact ns_con
      exact sh_int
      exact sa_nil
      refine sa_cons ?_ ?_ ?_
      exact ns_tup
      refine sh_tup ?_ ?_
      exact Nat.le_of_ble_eq_true rfl
      refine sa_cons ?_ ?_ ?_
      exact ns_con
      exact sh_int
      refine sa_cons ?_ ?_ ?_
      exact ns_con
      exact sh_int
      exact sa_nil
      exact sa_nil
      refine sa_cons ?_ ?_ ?_
      exact ns_lst
      refine sh_lst ?_ ?_
      exact Nat.le_of_ble_eq_true rfl
      refine sa_cons ?_ ?_ ?_
      exact ns_tup
      refine sh_tup ?_ ?_
      exact Nat.le_of_ble_eq_true rfl
      refine sa_cons ?_ ?_ ?_
      exact ns_name
      exact sh_cell (pv 0)
      refine sa_cons ?_ ?_ ?_
      exact ns_con
      exact sh_int
      exact sa_nil
      refine sa_cons ?_ ?_ ?_
      exact ns_tup
      refine sh_tup ?_ ?_
      exact Nat.le_of_ble_eq_true rfl
      refine sa_cons ?_ ?_ ?_
      exact ns_bin
      refine sh_sub ?_ ?_
      exact sh_cell (pv 0)
      exact sh_int
      refine sa_cons ?_ ?_ ?_
      exact ns_con
      exact sh_int
      exact sa_nil
      exact sa_nil
      refine sa_cons ?_ ?_ ?_
      exact ns_lst
      refine sh_lst ?_ ?_
      exact Nat.le_of_ble_eq_true rfl
      refine sa_cons ?_ ?_ ?_
      exact ns_tup
      refine sh_tup ?_ ?_
      exact Nat.le_of_ble_eq_true rfl
      refine sa_cons ?_ ?_ ?_
      exact ns_con
      exact sh_int
      refine sa_cons ?_ ?_ ?_
      exact ns_con
      exact sh_int
      exact sa_nil
      refine sa_cons ?_ ?_ ?_
      exact ns_tup
      refine sh_tup ?_ ?_
      exact Nat.le_of_ble_eq_true rfl
      refine sa_cons ?_ ?_ ?_
      exact ns_con
      exact sh_int
      refine sa_cons ?_ ?_ ?_
      exact ns_con
      exact sh_int
      exact sa_nil
      refine sa_cons ?_ ?_ ?_
      exact ns_tup
      refine sh_tup ?_ ?_
      exact Nat.le_of_ble_eq_true rfl
      refine sa_cons ?_ ?_ ?_
      exact ns_con
      exact sh_int
      refine sa_cons ?_ ?_ ?_
      exact ns_con
      exact sh_int
      exact sa_nil
      exact sa_nil
      refine sa_cons ?_ ?_ ?_
      exact ns_lst
      refine sh_lst ?_ ?_
      exact Nat.le_of_ble_eq_true rfl
      refine sa_cons ?_ ?_ ?_
      exact ns_tup
      refine sh_tup ?_ ?_
      exact Nat.le_of_ble_eq_true rfl
      refine sa_cons ?_ ?_ ?_
      exact ns_con
      exact sh_int
      refine sa_cons ?_ ?_ ?_
      exact ns_con
      exact sh_int
      exact sa_nil
      refine sa_cons ?_ ?_ ?_
      exact ns_con
      exact sh_int
      exact sa_nil
      exact sa_nil
    · refine ⟨rfl, fun v1 H1 s1 i1 => ?_⟩
      obtain ⟨a1, _, xs1, e, rfl, h1, p1⟩ := i1.lst_of rfl
      cases e
      refine ⟨_, rfl, rfl, fun v2 H2 s2 i2 => ?_⟩
      obtain ⟨a2, _, xs2, e, rfl, h2, p2⟩ := i2.lst_of rfl
      cases e
      have n1 : xs1.length = 13 := p1.length.symm
      have n2 : xs2.length = 7 := p2.length.symm
      refine ⟨a1, a2, xs1, xs2, rfl, rfl, s2 _ _ h1, h2, by rw [n1, n2]; decide, fun p hp => ?_⟩
      refine ⟨_, rfl, rfl, fun v3 H3 s3 i3 => ?_⟩
      obtain ⟨a3, _, xs3, e, rfl, h3, p3⟩ := i3.lst_of rfl
      cases e
      have n3 : xs3.length = 4 := p3.length.symm
      refine ⟨p, a3, xs1 ++ xs2, xs3, rfl, rfl, s3 _ _ upd_same, h3, by rw [List.length_append, n1, n2, n3]; decide, fun p' hp' => ?_⟩
      have s4 := ((Same.upd (o := .lst (xs1 ++ xs2)) hp).trans s3).trans (Same.upd (o := .lst (xs1 ++ xs2 ++ xs3)) hp')
      refine q _ _ ((rows1 c ++ rows2 c) ++ rows3 c) ((s1.trans s2).trans s4) (.lst upd_same (IsL.append (IsL.append (p1.same (s2.trans s4)) (p2.same s4)) (p3.same (Same.upd hp')))) rfl ?_
      exact List.forall_mem_append.mpr ⟨List.forall_mem_append.mpr ⟨rows1_bad hc, rows2_bad hc⟩, rows3_bad hc⟩
end
end Fk

set_option genSizeOf false
set_option genInjectivity false
namespace Fk
open PySem L2 Fm PyProof.Rows

theorem iteY {c A B : Prop} [Decidable c] (hc : c) (h : A) : if decide c = true then A else B := by
  rw [if_pos (decide_eq_true hc)]
  exact h
theorem iteZ {c A B : Prop} [Decidable c] (hc : ¬ c) (h : B) : if decide c = true then A else B := by
  rw [if_neg (by rw [decide_eq_false hc]; exact Bool.false_ne_true)]
  exact h
noncomputable def R3 : Row := [(0, 1), (3, 2), (4, 1)]
theorem good_of {r : Row} (h1 : ∀ j, j < r.length → ∀ i, i < j → pl r i < pl r j) (h2 : ∀ i, i < r.length → 1 ≤ ht r i) : Good r := ⟨fun i j a b => h1 j b i a, fun i a => h2 i a⟩
theorem good3 : Good R3 := good_of (by decide) (by decide)
theorem good1 : Good [(0, 1)] := good_of (by decide) (by decide)
theorem good0 : Good [] := good_of (by decide) (by decide)
noncomputable def Ref (d : Int) (t : Tm) (k : Int) : Prop := (RowBad t ∧ k = 0 ∧ (d = 0 ∨ d = 1 ∨ d = 2 ∨ d = 3 ∨ d = 4 ∨ d = 5 ∨ d = 6)) ∨ (StoneBad 3 t ∧ k = 1 ∧ (d = 7 ∨ d = 8 ∨ d = 9 ∨ d = 10 ∨ d = 11)) ∨ (PushBad 3 t ∧ k = 1 ∧ d = 12) ∨ (SideBad t ∧ k = 2 ∧ (d = 13 ∨ d = 14)) ∨
  (d = 7 ∧ t = .int 0 ∧ k = 2) ∨ (d = 4 ∧ t = .lst [] ∧ k = 1) ∨ (d = 5 ∧ t = .lst [.tup [.int 0, .int 1]] ∧ k = 1)
noncomputable def cls3 (eR eS eD : Addr) (k : Int) : Addr := if k = 0 then eR else if k = 1 then eS else eD
section
variable {P : Program} {w : World} {K : PySem.W.Frag} {mg : Str → Option Value} {base : Heap} {eF eR eS eD eT : Addr}
noncomputable def spAsk (eR eS eD : Addr) : Sp := fun vs H _ E => ∃ d t v k, vs = [.int d, v] ∧ Is H t v ∧ Ref d t k ∧ ∀ x H', Same H H' → H' x = none → E (.ref (cls3 eR eS eD k)) (some x) H'
theorem scAsk : FnScope ["_law_door", "_law_thing", "_law_good"] ["_law_door", "_law_thing"] (defScope s_law_ask) := ⟨rfl, rfl, rfl, by decide +kernel, rfl, by decide +kernel, by decide +kernel⟩
theorem four_ok : 4 ≤ sizeLine := by decide
theorem ok_ask {f : Addr} {fd : FuncData} (F : Fun K "_law_ask" "_law_ask" s_law_ask f fd) (d_mirr : DfnE P w K mg base "mirrored" 4 ["row"] (spCRb eR)) (d_few : DfnE P w K mg base "fewest" 4 ["row"] (spCRb eR)) (d_rig : DfnE P w K mg base "rights" 4 ["row"] (spCRb eR)) (d_wri : DfnE P w K mg base "written" 4 ["row"] (spCRb eR))
    (d_fell : DfnE P w K mg base "felled" 4 ["row", "stone", "side"] (spFE eR eS eD)) (d_hig : DfnE P w K mg base "higher" 4 ["row", "stone"] (spHE eR eS)) (d_rea : DfnE P w K mg base "reached" 5 ["row", "push", "stone"] (spRE eR eS eD)) : FnOk P w K mg base (CXE P w) 6 f fd ["_law_door", "_law_thing"] (spAsk eR eS eD) := by
  obtain ⟨f0, m0, a0⟩ := d_mirr.at
  obtain ⟨f1, m1, a1⟩ := d_few.at
  obtain ⟨f2, m2, a2⟩ := d_rig.at
  obtain ⟨f3, m3, a3⟩ := d_wri.at
  refine F.okE scAsk (fun vs H Q E h => ?_) (fun cdv A outer s H vs Q E hr R h => ?_)
  · obtain ⟨d, t, v, k, rfl, _⟩ := h
    rfl
  · obtain ⟨d, t, v, k, rfl, i, rf, q⟩ := h
    refine ⟨_, (pss_cons (ps_set (i := 2) scAsk.nd rfl (Or.inl rfl) (LitR.pe (r := R3) (.cons (.mk (.con rfl) (.con rfl)) (.cons (.mk (.con rfl) (.con rfl)) (.cons (.mk (.con rfl) (.con rfl)) .nil))) (by decide)))
      (pss_cons (ps_if (pt_cmpR op_lt (pv 0) pe_int (nomark _))
        (pss_one (ps_ret (pe_callV (FnAt P w K mg base (CXE P w) 4) (fun _ _ z => z) (hr.mono (by decide)) (passE R.st R.fr R.ex R.xe) (pe_ix (ix_listK K rfl) (pe_lst (pa_cons (pe_glob (v := .ref f0) (by rfl) m0 rfl) (pa_cons (pe_glob (v := .ref f1) (by rfl) m1 rfl) (pa_cons (pe_glob (v := .ref f2) (by rfl) m2 rfl) (pa_cons (pe_glob (v := .ref f3) (by rfl) m3 rfl) pa_nil))))) (pv 0) (fun _ _ => rfl)) (pa_cons (pv 1) pa_nil))))
        pss_nil)
      (pss_cons (ps_if (pt_cmpR op_lt (pv 0) pe_int (nomark _))
        (pss_one (ps_ret (pe_ifExp (pt_cmpR op_eq (pv 0) pe_int (nomark _)) (pe_callE d_fell R (hr.mono (by decide)) (by rfl) (pa_cons (pv 1) (pa_cons (Lit.neg (j := -1) rfl).pe (pa_cons pe_int pa_nil))))
          (pe_ifExp (pt_cmpR op_eq (pv 0) pe_int (nomark _)) (pe_callE d_rea R (hr.mono (by decide)) (by rfl) (pa_cons (pv 1) (pa_cons pe_non (pa_cons (Lit.neg (j := -1) rfl).pe pa_nil)))) (pe_callE d_hig R (hr.mono (by decide)) (by rfl) (pa_cons (pv 1) (pa_cons (Lit.neg (j := -1) rfl).pe pa_nil)))))))
        pss_nil)
      (pss_cons (ps_if (pt_cmpR op_lt (pv 0) pe_int (nomark _))
        (pss_cons (ps_if (pt_cmpR op_eq (pv 0) pe_int (nomark _))
          (pss_one (ps_ret (pe_callE d_rea R (hr.mono (by decide)) (by rfl) (pa_cons (pv 2) (pa_cons (LitP.mk (.con rfl) (.con rfl)).pe (pa_cons (pv 1) pa_nil))))))
          pss_nil)
        (pss_one (ps_ret (pe_ifExp (pt_cmpR op_eq (pv 0) pe_int (nomark _)) (pe_callE d_fell R (hr.mono (by decide)) (by rfl) (pa_cons (pv 2) (pa_cons (pv 1) (pa_cons pe_int pa_nil)))) (pe_callE d_hig R (hr.mono (by decide)) (by rfl) (pa_cons (pv 2) (pa_cons (pv 1) pa_nil)))))))
        pss_nil)
      (pss_cons (ps_if (pt_cmpR op_lt (pv 0) pe_int (nomark _))
        (pss_one (ps_ret (pe_ifExp (pt_cmpR op_eq (pv 0) pe_int (nomark _)) (pe_callE d_rea R (hr.mono (by decide)) (by rfl) (pa_cons (pv 2) (pa_cons (pe_tup (pa_cons (pv 1) (pa_cons pe_int pa_nil))) (pa_cons (Lit.neg (j := -1) rfl).pe pa_nil)))) (pe_callE d_rea R (hr.mono (by decide)) (by rfl) (pa_cons (pv 2) (pa_cons (pe_tup (pa_cons (pv 1) (pa_cons pe_int pa_nil))) (pa_cons (Lit.neg (j := -1) rfl).pe pa_nil)))))))
        pss_nil)
      (pss_cons (ps_if (pt_cmpR op_eq (pv 0) pe_int (nomark _))
        (pss_one (ps_ret (pe_callE d_rea R (hr.mono (by decide)) (by rfl) (pa_cons (pv 2) (pa_cons (pv 1) (pa_cons (Lit.neg (j := -1) rfl).pe pa_nil))))))
        pss_nil)
      (pss_one (ps_ret (pe_ifExp (pt_cmpR op_eq (pv 0) pe_int (nomark _)) (pe_callE d_fell R (hr.mono (by decide)) (by rfl) (pa_cons (pv 2) (pa_cons pe_int (pa_cons (pv 1) pa_nil)))) (pe_callE d_rea R (hr.mono (by decide)) (by rfl) (pa_cons (pv 2) (pa_cons (pe_tup (pa_cons pe_int (pa_cons (pv 1) pa_nil))) (pa_cons (Lit.neg (j := -1) rfl).pe pa_nil))))))))))))), ?_⟩
    intro H2 gl xs s2 hgl hx
    have G : RowOk H2 gl R3 := ⟨⟨xs, hgl, hx⟩, good3, by decide⟩
    have i2 := i.same s2
    have q2 : ∀ x, H2 x = none → E (.ref (cls3 eR eS eD k)) (some x) H2 := fun x hx => q x H2 s2 hx
    rcases rf with ⟨bad, rfl, rf⟩ | ⟨bad, rfl, rf⟩ | ⟨bad, rfl, rfl⟩ | ⟨bad, rfl, rf⟩ | ⟨rfl, rfl, rfl⟩ | ⟨rfl, rfl, rfl⟩ | ⟨rfl, rfl, rfl⟩
    · rcases rf with rfl | rfl | rfl | rfl | rfl | rfl | rfl
      · exact ⟨_, rfl, _, _, rfl, rfl, _, rfl, iteY (by decide) ⟨four_ok, fun p hp => ⟨_, rfl, p, _, 0, _, rfl, rfl, SqL.of upd_same, rfl, f0, _, rfl, a0, _, rfl, t, v, rfl, i2.same (Same.upd hp), bad, fun x hx => q x _ (s2.trans (Same.upd hp)) hx⟩⟩⟩
      · exact ⟨_, rfl, _, _, rfl, rfl, _, rfl, iteY (by decide) ⟨four_ok, fun p hp => ⟨_, rfl, p, _, 1, _, rfl, rfl, SqL.of upd_same, rfl, f1, _, rfl, a1, _, rfl, t, v, rfl, i2.same (Same.upd hp), bad, fun x hx => q x _ (s2.trans (Same.upd hp)) hx⟩⟩⟩
      · exact ⟨_, rfl, _, _, rfl, rfl, _, rfl, iteY (by decide) ⟨four_ok, fun p hp => ⟨_, rfl, p, _, 2, _, rfl, rfl, SqL.of upd_same, rfl, f2, _, rfl, a2, _, rfl, t, v, rfl, i2.same (Same.upd hp), bad, fun x hx => q x _ (s2.trans (Same.upd hp)) hx⟩⟩⟩
      · exact ⟨_, rfl, _, _, rfl, rfl, _, rfl, iteY (by decide) ⟨four_ok, fun p hp => ⟨_, rfl, p, _, 3, _, rfl, rfl, SqL.of upd_same, rfl, f3, _, rfl, a3, _, rfl, t, v, rfl, i2.same (Same.upd hp), bad, fun x hx => q x _ (s2.trans (Same.upd hp)) hx⟩⟩⟩
      · exact ⟨_, rfl, _, _, rfl, rfl, _, rfl, iteZ (by decide) ⟨_, rfl, _, _, rfl, rfl, _, rfl, iteY (by decide) ⟨_, rfl, rfl, _, rfl, iteY (by decide) ⟨_, rfl, v, _, _, rfl, .inl ⟨t, i2, bad, q2⟩⟩⟩⟩⟩
      · exact ⟨_, rfl, _, _, rfl, rfl, _, rfl, iteZ (by decide) ⟨_, rfl, _, _, rfl, rfl, _, rfl, iteY (by decide) ⟨_, rfl, rfl, _, rfl, iteZ (by decide) ⟨_, rfl, rfl, _, rfl, iteY (by decide) ⟨_, rfl, v, _, _, rfl, .inl ⟨t, i2, bad, q2⟩⟩⟩⟩⟩⟩
      · exact ⟨_, rfl, _, _, rfl, rfl, _, rfl, iteZ (by decide) ⟨_, rfl, _, _, rfl, rfl, _, rfl, iteY (by decide) ⟨_, rfl, rfl, _, rfl, iteZ (by decide) ⟨_, rfl, rfl, _, rfl, iteZ (by decide) ⟨_, rfl, v, _, rfl, .inl ⟨t, i2, bad, q2⟩⟩⟩⟩⟩⟩
    · rcases rf with rfl | rfl | rfl | rfl | rfl
      · exact ⟨_, rfl, _, _, rfl, rfl, _, rfl, iteZ (by decide) ⟨_, rfl, _, _, rfl, rfl, _, rfl, iteZ (by decide) ⟨_, rfl, _, _, rfl, rfl, _, rfl, iteY (by decide) ⟨_, rfl, rfl, _, rfl, iteZ (by decide) ⟨_, rfl, rfl, _, rfl, iteY (by decide) ⟨_, rfl, _, rfl, _, _, _, rfl, .inr (.inl ⟨gl, R3, t, rfl, G, i2, bad, q2⟩)⟩⟩⟩⟩⟩⟩
      · exact ⟨_, rfl, _, _, rfl, rfl, _, rfl, iteZ (by decide) ⟨_, rfl, _, _, rfl, rfl, _, rfl, iteZ (by decide) ⟨_, rfl, _, _, rfl, rfl, _, rfl, iteY (by decide) ⟨_, rfl, rfl, _, rfl, iteZ (by decide) ⟨_, rfl, rfl, _, rfl, iteZ (by decide) ⟨_, rfl, _, rfl, _, _, rfl, .inr ⟨gl, R3, t, rfl, G, i2, bad, q2⟩⟩⟩⟩⟩⟩⟩
      · exact ⟨_, rfl, _, _, rfl, rfl, _, rfl, iteZ (by decide) ⟨_, rfl, _, _, rfl, rfl, _, rfl, iteZ (by decide) ⟨_, rfl, _, _, rfl, rfl, _, rfl, iteY (by decide) ⟨_, rfl, rfl, _, rfl, iteY (by decide) ⟨_, rfl, fun H3 tp s3 e3 => ⟨_, rfl, _, _, _, rfl, .inr ⟨gl, R3, _, rfl, G.same s3, .tup e3 (.cons (.int 1) (.cons (.int 1) .nil)), .inr (.inr ⟨1, 1, t, rfl, by decide, by decide, .inl rfl, i2.same s3, bad, fun x hx => q x H3 (s2.trans s3) hx⟩)⟩⟩⟩⟩⟩⟩⟩
      · exact ⟨_, rfl, _, _, rfl, rfl, _, rfl, iteZ (by decide) ⟨_, rfl, _, _, rfl, rfl, _, rfl, iteZ (by decide) ⟨_, rfl, _, _, rfl, rfl, _, rfl, iteZ (by decide) ⟨_, rfl, _, _, rfl, rfl, _, rfl, iteY (by decide) ⟨_, rfl, rfl, _, rfl, iteY (by decide) ⟨_, rfl, _, rfl, two_ok, fun p hp => ⟨_, _, _, rfl, .inr ⟨gl, R3, .tup [t, .int 0], rfl, G.same (Same.upd hp), .tup upd_same (.cons (i2.same (Same.upd hp)) (.cons (.int 0) .nil)), .inl ⟨.inr ⟨_, _, rfl, bad⟩, fun x hx => q x _ (s2.trans (Same.upd hp)) hx⟩⟩⟩⟩⟩⟩⟩⟩⟩
      · exact ⟨_, rfl, _, _, rfl, rfl, _, rfl, iteZ (by decide) ⟨_, rfl, _, _, rfl, rfl, _, rfl, iteZ (by decide) ⟨_, rfl, _, _, rfl, rfl, _, rfl, iteZ (by decide) ⟨_, rfl, _, _, rfl, rfl, _, rfl, iteY (by decide) ⟨_, rfl, rfl, _, rfl, iteZ (by decide) ⟨_, rfl, _, rfl, two_ok, fun p hp => ⟨_, _, _, rfl, .inr ⟨gl, R3, .tup [t, .int 1], rfl, G.same (Same.upd hp), .tup upd_same (.cons (i2.same (Same.upd hp)) (.cons (.int 1) .nil)), .inl ⟨.inr ⟨_, _, rfl, bad⟩, fun x hx => q x _ (s2.trans (Same.upd hp)) hx⟩⟩⟩⟩⟩⟩⟩⟩⟩
    · exact ⟨_, rfl, _, _, rfl, rfl, _, rfl, iteZ (by decide) ⟨_, rfl, _, _, rfl, rfl, _, rfl, iteZ (by decide) ⟨_, rfl, _, _, rfl, rfl, _, rfl, iteZ (by decide) ⟨_, rfl, _, _, rfl, rfl, _, rfl, iteZ (by decide) ⟨_, rfl, rfl, _, rfl, iteY (by decide) ⟨_, rfl, _, rfl, _, _, _, rfl, .inr ⟨gl, R3, t, rfl, G, i2, .inl ⟨bad, q2⟩⟩⟩⟩⟩⟩⟩⟩
    · rcases rf with rfl | rfl
      · exact ⟨_, rfl, _, _, rfl, rfl, _, rfl, iteZ (by decide) ⟨_, rfl, _, _, rfl, rfl, _, rfl, iteZ (by decide) ⟨_, rfl, _, _, rfl, rfl, _, rfl, iteZ (by decide) ⟨_, rfl, _, _, rfl, rfl, _, rfl, iteZ (by decide) ⟨_, rfl, rfl, _, rfl, iteZ (by decide) ⟨_, rfl, rfl, _, rfl, iteY (by decide) ⟨_, rfl, _, rfl, _, _, _, rfl, .inr (.inr ⟨gl, R3, 1, t, rfl, G, rfl, by decide, by decide, i2, bad, q2⟩)⟩⟩⟩⟩⟩⟩⟩
      · exact ⟨_, rfl, _, _, rfl, rfl, _, rfl, iteZ (by decide) ⟨_, rfl, _, _, rfl, rfl, _, rfl, iteZ (by decide) ⟨_, rfl, _, _, rfl, rfl, _, rfl, iteZ (by decide) ⟨_, rfl, _, _, rfl, rfl, _, rfl, iteZ (by decide) ⟨_, rfl, rfl, _, rfl, iteZ (by decide) ⟨_, rfl, rfl, _, rfl, iteZ (by decide) ⟨_, rfl, _, rfl, two_ok, fun p hp => ⟨_, _, _, rfl, .inr ⟨gl, R3, .tup [.int 1, t], rfl, G.same (Same.upd hp), .tup upd_same (.cons (.int 1) (.cons (i2.same (Same.upd hp)) .nil)), .inr (.inl ⟨1, t, rfl, by decide, by decide, bad, fun x hx => q x _ (s2.trans (Same.upd hp)) hx⟩)⟩⟩⟩⟩⟩⟩⟩⟩⟩
    · have e := i2.toInt
      subst e
      exact ⟨_, rfl, _, _, rfl, rfl, _, rfl, iteZ (by decide) ⟨_, rfl, _, _, rfl, rfl, _, rfl, iteZ (by decide) ⟨_, rfl, _, _, rfl, rfl, _, rfl, iteY (by decide) ⟨_, rfl, rfl, _, rfl, iteZ (by decide) ⟨_, rfl, rfl, _, rfl, iteY (by decide) ⟨_, rfl, _, rfl, _, _, _, rfl, .inr (.inr ⟨gl, R3, 0, .int 0, rfl, G, rfl, by decide, by decide, .int 0, (fun j e h => by cases e; unfold Sd at h; omega), q2⟩)⟩⟩⟩⟩⟩⟩
    · obtain ⟨a, l, ys, e, rfl, ha, p⟩ := i2.lst_of rfl
      cases e
      cases p
      exact ⟨_, rfl, _, _, rfl, rfl, _, rfl, iteZ (by decide) ⟨_, rfl, _, _, rfl, rfl, _, rfl, iteY (by decide) ⟨_, rfl, rfl, _, rfl, iteY (by decide) ⟨_, rfl, _, _, _, rfl, .inr (.inl ⟨a, [], .int (-1), rfl, ⟨⟨[], ha, .nil⟩, good0, by decide⟩, .int (-1), (fun j e => by cases e; omega), q2⟩)⟩⟩⟩⟩
    · obtain ⟨a, l, ys, e, rfl, ha, p⟩ := i2.lst_of rfl
      cases e
      obtain ⟨v0, y0, j0⟩ := p.at (i := 0) rfl
      obtain ⟨b, l0, zs, e, rfl, hb, p0⟩ := j0.tup_of rfl
      cases e
      have hys : ys = [.ref b] := by
        cases p with
        | cons h r => cases r; simpa using y0
      have hzs : zs = [.int 0, .int 1] := by
        cases p0 with
        | cons h r =>
          cases r with
          | cons h2 r2 =>
            cases r2
            rw [h.toInt, h2.toInt]
      subst hys hzs
      exact ⟨_, rfl, _, _, rfl, rfl, _, rfl, iteZ (by decide) ⟨_, rfl, _, _, rfl, rfl, _, rfl, iteY (by decide) ⟨_, rfl, rfl, _, rfl, iteZ (by decide) ⟨_, rfl, rfl, _, rfl, iteY (by decide) ⟨_, rfl, _, _, _, rfl, .inr ⟨a, [(0, 1)], .non, rfl, ⟨⟨[.ref b], ha, .cons ⟨b, rfl, hb⟩ .nil⟩, good1, by decide⟩, .non, .inl ⟨.inl (fun x y e => by cases e), q2⟩⟩⟩⟩⟩⟩⟩
end
end Fk

set_option genSizeOf false
set_option genInjectivity false
namespace Fk
open PySem L2 Fm PyProof.Rows
theorem boot_ValueError : bootBuiltins "ValueError" = some (.type "ValueError") := by decide +kernel
theorem Ref.le {d : Int} {t : Tm} {k : Int} (h : Ref d t k) : k = 0 ∨ k = 1 ∨ k = 2 := by
  rcases h with ⟨_, h, _⟩ | ⟨_, h, _⟩ | ⟨_, h, _⟩ | ⟨_, h, _⟩ | ⟨_, _, h⟩ | ⟨_, _, h⟩ | ⟨_, _, h⟩ <;> omega
section
variable {P : Program} {w : World} {K : PySem.W.Frag} {mg : Str → Option Value} {base : Heap} {eF eR eS eD eT : Addr}
theorem Ex.cls (T : Ex K mg eF eR eS eD eT) {k : Int} (h : k = 0 ∨ k = 1 ∨ k = 2) : ClsK K (cls3 eR eS eD k) eF eR eS eD eT k := by
  rcases h with rfl | rfl | rfl
  · exact T.kR
  · exact T.kS
  · exact T.kD
noncomputable def spDue8 : Sp := fun vs H Q _ => ∃ d t v k, vs = [.int d, v, .int k] ∧ Is H t v ∧ Ref d t k ∧ ∀ H', Same H H' → Q (.bl true) H'
theorem scDue8 : FnScope ["_law_door", "_law_thing", "_law_due_here", "error", "_law_found"] ["_law_door", "_law_thing", "_law_due_here"] (defScope s_law_due) := ⟨rfl, rfl, rfl, by decide +kernel, rfl, by decide +kernel, by decide +kernel⟩
theorem three_ok : 3 ≤ sizeLine := by decide
theorem ok_due8 {f : Addr} {fd : FuncData} (F : Fun K "_law_due" "_law_due" s_law_due f fd) (B : Blt mg) (T : Ex K mg eF eR eS eD eT) (d_ask : DfnE P w K mg base "_law_ask" 6 ["_law_door", "_law_thing"] (spAsk eR eS eD)) : FnOk P w K mg base CX0 7 f fd ["_law_door", "_law_thing", "_law_due_here"] spDue8 := by
  refine F.ok scDue8 (fun vs H Q E h => ?_) (fun cdv A outer s H vs Q E hr h => ?_)
  · obtain ⟨d, t, v, k, rfl, _⟩ := h
    rfl
  · obtain ⟨d, t, v, k, rfl, i, rf, q⟩ := h
    refine ⟨_, (pss_cons (ps_tryE d_ask (hr.mono (by decide)) (by rfl) (pa_cons (pv 0) (pa_cons (pv 1) pa_nil)) rfl rfl rfl T.gF (by rfl) scDue8.nd (i := 3) rfl rfl
        (fun x => pss_cons (ps_set (i := 4) scDue8.nd rfl (Or.inl rfl) (pe_lst (pa_cons (pe_callB (call_isiX K rfl) (by rfl) B.b_isinstance boot_isinstance (pa_cons (pv 3) (pa_cons (pe_glob (v := .ref eR) rfl T.gR rfl) pa_nil))) (pa_cons (pe_callB (call_isiX K rfl) (by rfl) B.b_isinstance boot_isinstance (pa_cons (pv 3) (pa_cons (pe_glob (v := .ref eS) rfl T.gS rfl) pa_nil))) (pa_cons (pe_callB (call_isiX K rfl) (by rfl) B.b_isinstance boot_isinstance (pa_cons (pv 3) (pa_cons (pe_glob (v := .ref eD) rfl T.gD rfl) pa_nil))) pa_nil)))))
          (pss_one (ps_ret (pe_and (pe_cmpR (op_eqL hr.units) (pe_op op_cat (pv 4) (pe_lst (pa_cons (pe_callB (call_isiX K rfl) (by rfl) B.b_isinstance boot_isinstance (pa_cons (pv 3) (pa_cons (pe_glob (v := .ref eT) rfl T.gT rfl) pa_nil))) pa_nil)))
              (pe_compH (x := x) rfl (cap := [(2, "_law_due_here")]) (own := ["_law_k"]) (CompOk.of (outer := defScope s_law_due) (N := ["_law_door", "_law_thing", "_law_due_here", "error", "_law_found"]) rfl rfl (by decide +kernel)) (by rfl) B.b_range (pa_cons pe_int pa_nil)
                (fun _ _ _ _ => ⟨(pg_name (i := 1) (show List.Nodup (["_law_due_here", "_law_k"] : List Str) by decide +kernel) rfl (Or.inl rfl)), pf_nil, (pe_cmpR op_eq (pv 1) (pv 0) (nomark _))⟩)) (nomark _))
            (pe_one (pe_callB (call_isiXT K rfl) (by rfl) B.b_isinstance boot_isinstance (pa_cons (pv 3) (pa_cons (pe_bltn (v := .ty "ValueError") rfl T.gV boot_ValueError rfl) pa_nil)))))))))
      (pss_one (ps_ret pe_bl))), ?_⟩
    refine ⟨_, rfl, _, rfl, fun c _ H' => c = .ref (cls3 eR eS eD k) ∧ Same H H', ⟨d, t, v, k, rfl, i, rf, fun x H' s' _ => ⟨rfl, s'⟩⟩, ?_⟩
    rintro C x H1 ⟨ec, s1⟩ hx
    have ec := Value.ref.inj ec
    subst ec
    have Z := T.cls rf.le
    refine ⟨Z.hF, ?_⟩
    have u0 : ∀ {H2 : Hp}, Same (L2.upd H1 x (ExcO x (cls3 eR eS eD k))) H2 → H2 x = some (ExcO x (cls3 eR eS eD k)) := fun z => z _ _ upd_same
    refine ⟨_, rfl, x, _, eR, _, rfl, u0 (Same.refl _), Z.ex, Z.tR, _, rfl, x, _, eS, _, rfl, u0 (Same.refl _), Z.ex, Z.tS, _, rfl, x, _, eD, _, rfl, u0 (Same.refl _), Z.ex, Z.tD, three_ok, fun p hp => ?_⟩
    refine ⟨_, rfl, _, rfl, x, _, eT, _, rfl, u0 (Same.upd hp), Z.ex, Z.tT, one_ok, fun p1 hp1 => ⟨p, p1, _, _, rfl, rfl, (Same.upd hp1) _ _ upd_same, upd_same, four_ok, fun p2 hp2 => ?_⟩⟩
    have s2 := ((Same.upd (o := .lst [V.bl (decide (k = 0)), V.bl (decide (k = 1)), V.bl (decide (k = 2))]) hp).trans (Same.upd (o := .lst [V.bl false]) hp1)).trans (Same.upd (o := .lst ([V.bl (decide (k = 0)), V.bl (decide (k = 1)), V.bl (decide (k = 2))] ++ [V.bl false])) hp2)
    refine ⟨4, rfl, by decide, by decide, comp_fil (n := 4) (fun _ => true) (fun j => V.bl (decide (V.int ((j : Nat) : Int) = V.int k))) (by decide) (fun j H3 s3 hj => hj) (fun H3 s3 => ⟨Nat.le_refl _, _, u0 (s2.trans s3)⟩) ?_ ?_⟩
    · rintro j y H3 H4 Q1 Q2 hj s3 ⟨rfl, rfl⟩ y1 y2
      exact ⟨⟨rfl, rfl⟩, _, rfl, _, rfl, rfl, y1 rfl _ (Same.refl _)⟩
    · intro D H3 hD s3 hd
      have e1 : ((List.range 4).filter fun _ => true).map (fun j => V.bl (decide (V.int ((j : Nat) : Int) = V.int k))) = [decide (k = 0), decide (k = 1), decide (k = 2), false].map V.bl := by
        rcases rf.le with rfl | rfl | rfl <;> rfl
      rw [e1] at hd
      refine ⟨p2, D, _, rfl, rfl, .bL (ns := [decide (k = 0), decide (k = 1), decide (k = 2), false]) (SqL.of (s3 _ _ upd_same)) (SqL.of hd), _, rfl, ?_⟩
      rw [decide_eq_true rfl]
      refine iteT ⟨_, rfl, x, _, "ValueError", _, rfl, u0 (s2.trans s3), Z.ex, Z.tV, ?_⟩
      exact q H3 (s1.trans (((Same.upd hx).trans s2).trans s3))
end
end Fk

set_option genSizeOf false
set_option genInjectivity false
namespace Fk
open PySem L2 Fm PyProof.Rows
structure Knd (P : Program) (w : World) (K : PySem.W.Frag) (mg : Str → Option Value) (base : Heap) (H : Hp) (v : V) : Prop where
  is : ∃ (tp ds f : Addr) (k : Int) (R : Tm → Prop) (n : Nat) (dl : List Int), v = .ref tp ∧ H tp = some (.tup [.ref ds, .ref f, .int k]) ∧ H ds = some (.lst (dl.map V.int)) ∧ 0 < dl.length ∧ dl.length ≤ 7 ∧ 0 < n ∧ n ≤ 24 ∧ FnAt P w K mg base CX0 1 f (spThings R n) ∧ ∀ d ∈ dl, ∀ t, R t → Ref d t k
section
variable {P : Program} {w : World} {K : PySem.W.Frag} {mg : Str → Option Value} {base : Heap}
theorem Knd.same {H H' : Hp} {v : V} (h : Knd P w K mg base H v) (s : Same H H') : Knd P w K mg base H' v := by
  obtain ⟨tp, ds, f, k, R, n, dl, e, h1, h2, r⟩ := h.is
  exact ⟨tp, ds, f, k, R, n, dl, e, s _ _ h1, s _ _ h2, r⟩
noncomputable def tKind (P : Program) (w : World) (K : PySem.W.Frag) (mg : Str → Option Value) (base : Heap) : TE := fun _ H Q => ∀ v H', Same H H' → Knd P w K mg base H' v → Q v H'
noncomputable def tKinds (P : Program) (w : World) (K : PySem.W.Frag) (mg : Str → Option Value) (base : Heap) (n : Nat) : TA := fun _ H Q => ∀ xs H', Same H H' → xs.length = n → (∀ x ∈ xs, Knd P w K mg base H' x) → Q xs H'
theorem kind_new {f : Addr} {k : Int} {R : Tm → Prop} {n : Nat} {dl : List Int} (fa : FnAt P w K mg base CX0 1 f (spThings R n)) (h0 : 0 < dl.length) (h1 : dl.length ≤ 7) (h2 : 0 < n) (h3 : n ≤ 24) (h4 : ∀ d ∈ dl, ∀ t, R t → Ref d t k) (σ : L2.St) (H : Hp) (Q : VK) (q : tKind P w K mg base σ H Q) :
    tTup (tCons (tNewI dl) (tCons (tC (.ref f)) (tCons (tC (.int k)) tNil))) σ H Q := fun H1 l s1 e1 => ⟨three_ok, fun p hp => q _ _ (s1.trans (Same.upd hp)) ⟨p, l, f, k, R, n, dl, rfl, upd_same, (Same.upd hp) _ _ e1, h0, h1, h2, h3, fa, h4⟩⟩
section
variable {X : Cx}
theorem kinds_nil : PA X [] (tKinds P w K mg base 0) := pa_weak pa_nil fun _ H _ q => q [] H (Same.refl H) rfl (fun x z => absurd z (by simp))
theorem kinds_cons {e : Expr} {es : List Expr} {n : Nat} (ns : NoStar e) (h : PE X e (tKind P w K mg base)) (r : PA X es (tKinds P w K mg base n)) : PA X (e :: es) (tKinds P w K mg base (n + 1)) :=
  pa_weak (pa_cons h r (ns _ _)) fun _ H _ q v H' s k xs H2 s2 l k2 => q (v :: xs) H2 (s.trans s2) (by rw [List.length_cons, l]) (List.forall_mem_cons.mpr ⟨k.same s2, k2⟩)
theorem list_range7 (B : Blt X.mg) (hc : X.calm = true) {p p' pos pos' : Pos} {j : Nat} {cp : Pos} (hg : Gl X "list") (hg' : Gl X "range") : PE X (.Call (.Name "list" p) [.Call (.Name "range" p') [.Constant (.int 7) j cp] [] pos'] [] pos) (tNewI [0, 1, 2, 3, 4, 5, 6]) :=
  pe_weak (pe_callTy (call_listR hc) hg B.b_list boot_list (pa_cons (pe_callTy call_rangeV hg' B.b_range boot_range (pa_cons pe_int pa_nil)) pa_nil)) fun σ H Q q =>
    ⟨0, 7, 1, .inl ⟨rfl, rfl, rfl⟩, fun r hr => ⟨r, 0, 7, 1, 7, rfl, upd_same, small_ok (by decide) (by decide) (by decide) (by decide), size_ok (by decide), by decide, fun l hl => q _ l ((Same.upd hr).trans (Same.upd hl)) (by rw [upd_same]; rfl)⟩⟩
end
theorem ref_rows : ∀ d ∈ ([0, 1, 2, 3, 4, 5, 6] : List Int), ∀ t, RowBad t → Ref d t 0 := fun d hd t h => .inl ⟨h, rfl, by simpa using hd⟩
theorem ref_stns : ∀ d ∈ ([7, 8, 9, 10, 11] : List Int), ∀ t, StoneBad 3 t → Ref d t 1 := fun d hd t h => .inr (.inl ⟨h, rfl, by simpa using hd⟩)
theorem ref_sds : ∀ d ∈ ([13, 14] : List Int), ∀ t, SideBad t → Ref d t 2 := fun d hd t h => .inr (.inr (.inr (.inl ⟨h, rfl, by simpa using hd⟩)))
theorem ref_pshs : ∀ d ∈ ([12] : List Int), ∀ t, PushBad 3 t → Ref d t 1 := fun d hd t h => .inr (.inr (.inl ⟨h, rfl, by simpa using hd⟩))
theorem pow_pos60 : (0 : Int) < (10 : Int) ^ (60 : Int).toNat := by decide
theorem getD_mem {dl : List Int} {j : Nat} (h : j < dl.length) : dl.getD j 0 ∈ dl := by
  rw [List.getD_eq_getElem?_getD, List.getElem?_eq_getElem h]
  exact List.getElem_mem h
theorem fell_one : nats (fell [(0, 1)] 0 (-1)) = ([0] : List Int).map V.int := by decide
theorem scLaw8 : FnScope ["_law_script", "_law_kinds", "_law_doors", "_law_things", "_law_due_here", "_law_door", "_law_cell", "_law_some"] ["_law_script"] (defScope sLaw) := ⟨rfl, rfl, rfl, by decide +kernel, rfl, by decide +kernel, by decide +kernel⟩
theorem ok_law8 {f : Addr} {fd : FuncData} (F : Fun K "law" "law" sLaw f fd) (B : Blt mg) (d_law_rows : Dfn P w K mg base "_law_rows" 1 ["_law_cell"] (spThings RowBad 24)) (d_law_stones : Dfn P w K mg base "_law_stones" 1 ["_law_cell"] (spThings (StoneBad 3) 10)) (d_law_sides : Dfn P w K mg base "_law_sides" 1 ["_law_cell"] (spThings SideBad 9)) (d_law_pushes : Dfn P w K mg base "_law_pushes" 1 ["_law_cell"] (spThings (PushBad 3) 10))
    (d_due : Dfn P w K mg base "_law_due" 7 ["_law_door", "_law_thing", "_law_due_here"] spDue8) (d_felled : Dfn P w K mg base "felled" 5 ["row", "stone", "side"] spFell) (d_mirrored : Dfn P w K mg base "mirrored" 4 ["row"] spMirr) : FnOk P w K mg base CX0 8 f fd ["_law_script"] (spLaw K) := by
  obtain ⟨f1, m1, a1⟩ := d_law_rows.at
  obtain ⟨f2, m2, a2⟩ := d_law_stones.at
  obtain ⟨f3, m3, a3⟩ := d_law_sides.at
  obtain ⟨f4, m4, a4⟩ := d_law_pushes.at
  refine F.ok scLaw8 (fun vs H Q E h => ?_) (fun cdv A outer s H vs Q E hr h => ?_)
  · obtain ⟨a, ns, rfl, _⟩ := h
    rfl
  · obtain ⟨a, ns, rfl, hS, hns, q⟩ := h
    refine ⟨_, (pss_cons (ps_set (i := 1) scLaw8.nd rfl (Or.inl rfl) (pe_lst (kinds_cons ns_tup (pe_weak (pe_tup (pa_cons (list_range7 B rfl (by rfl) (by rfl)) (pa_cons (pe_glob (v := .ref f1) (by rfl) m1 rfl) (pa_cons pe_int pa_nil)))) (kind_new a1 (by decide) (by decide) (by decide) (by decide) ref_rows))
        (kinds_cons ns_tup (pe_weak (pe_tup (pa_cons (Lits.pe (is := [7, 8, 9, 10, 11]) (.cons (.con rfl) (.cons (.con rfl) (.cons (.con rfl) (.cons (.con rfl) (.cons (.con rfl) .nil))))) (by decide)) (pa_cons (pe_glob (v := .ref f2) (by rfl) m2 rfl) (pa_cons pe_int pa_nil)))) (kind_new a2 (by decide) (by decide) (by decide) (by decide) ref_stns))
        (kinds_cons ns_tup (pe_weak (pe_tup (pa_cons (Lits.pe (is := [13, 14]) (.cons (.con rfl) (.cons (.con rfl) .nil)) (by decide)) (pa_cons (pe_glob (v := .ref f3) (by rfl) m3 rfl) (pa_cons pe_int pa_nil)))) (kind_new a3 (by decide) (by decide) (by decide) (by decide) ref_sds)) kinds_nil)))))
      (pss_cons (ps_for PassesOwn.never rfl (pi_list (pe_op op_cat (pv 1) (pe_lst (kinds_cons ns_tup (pe_weak (pe_tup (pa_cons (Lits.pe (is := [12]) (.cons (.con rfl) .nil) (by decide)) (pa_cons (pe_glob (v := .ref f4) (by rfl) m4 rfl) (pa_cons pe_int pa_nil)))) (kind_new a4 (by decide) (by decide) (by decide) (by decide) ref_pshs)) kinds_nil))))
          (pg_tupK (n := 3) K rfl rfl (pgs_cons (pg_name (i := 2) scLaw8.nd rfl (Or.inl rfl)) (pgs_cons (pg_name (i := 3) scLaw8.nd rfl (Or.inl rfl)) (pgs_cons (pg_name (i := 4) scLaw8.nd rfl (Or.inr rfl)) pgs_nil))))
        (pss_cons (ps_for PassesOwn.never rfl (pi_list (pv 2)) (pg_name (i := 5) scLaw8.nd rfl (Or.inr rfl))
          (pss_one (ps_if (pt_not (pt_val (pe_callB (call_allB rfl) (by rfl) B.b_all boot_all (pa_cons (pe_comp rfl (cap := [(5, "_law_door"), (4, "_law_due_here")]) (own := ["_law_thing"]) (CompOk.of (outer := defScope sLaw) (N := ["_law_script", "_law_kinds", "_law_doors", "_law_things", "_law_due_here", "_law_door", "_law_cell", "_law_some"]) rfl rfl (by decide +kernel))
              (pi_list (pe_callV (E := E0) (FnAt P w K mg base CX0 1) (fun _ _ z => z) (hr.mono (by decide)) pass0 (pv 3) (pa_cons (pe_callB (call_len_seqK K rfl) (by rfl) B.b_len boot_len (pa_cons (pv 0) pa_nil)) pa_nil)))
              (fun _ _ _ _ => ⟨(pg_name (i := 2) (show List.Nodup (["_law_door", "_law_due_here", "_law_thing"] : List Str) by decide +kernel) rfl (Or.inl rfl)), pf_nil, (pe_callD d_due (hr.mono (by decide)) (by rfl) (pa_cons (pv 0) (pa_cons (pv 2) (pa_cons (pv 1) pa_nil))))⟩)) pa_nil))))
            (pss_one (ps_ret pe_bl))
            pss_nil)))
        (pss_one (ps_for PassesOwn.never rfl (pi_list (pv 0)) (pg_name (i := 6) scLaw8.nd rfl (Or.inl rfl))
          (pss_cons (ps_set (i := 7) scLaw8.nd rfl (Or.inl rfl) (pe_callV (E := E0) (FnAt P w K mg base CX0 1) (fun _ _ z => z) (hr.mono (by decide)) pass0 (pv 3) (pa_cons (pe_op op_mod (pv 6) (pe_op op_pow pe_int pe_int)) pa_nil)))
          (pss_one (ps_if (pt_not (pt_val (pe_callD d_due (hr.mono (by decide)) (by rfl) (pa_cons (pe_ix (ix_listK K rfl) (pv 2) (pe_op op_mod (pv 6) (pe_callB (call_len_seqK K rfl) (by rfl) B.b_len boot_len (pa_cons (pv 2) pa_nil))) (fun _ _ => rfl))
              (pa_cons (pe_ix (ix_listK K rfl) (pv 7) (pe_op op_mod (pe_op op_fdivB (pv 6) (pe_callB (call_len_seqK K rfl) (by rfl) B.b_len boot_len (pa_cons (pv 2) pa_nil))) (pe_callB (call_len_seqK K rfl) (by rfl) B.b_len boot_len (pa_cons (pv 7) pa_nil))) (fun _ _ => rfl)) (pa_cons (pv 4) pa_nil))))))
            (pss_one (ps_ret pe_bl))
            pss_nil)))))))
      (pss_cons (ps_if (PW.pt (pw_or (pt_not (pt_val (pe_callD d_due (hr.mono (by decide)) (by rfl) (pa_cons pe_int (pa_cons pe_int (pa_cons pe_int pa_nil)))))) (pw_or (pt_not (pt_val (pe_callD d_due (hr.mono (by decide)) (by rfl) (pa_cons pe_int (pa_cons (pe_lst pa_nil) (pa_cons pe_int pa_nil)))))) (pw_or1 (pt_not (pt_val (pe_callD d_due (hr.mono (by decide)) (by rfl) (pa_cons pe_int (pa_cons (pe_lst (pa_cons (LitP.mk (.con rfl) (.con rfl)).pe pa_nil)) (pa_cons pe_int pa_nil))))))))))
        (pss_one (ps_ret pe_bl))
        pss_nil)
      (pss_one (ps_ret (pe_and (pe_cmpR (op_eqL hr.units) (pe_callD d_felled (hr.mono (by decide)) (by rfl) (pa_cons (LitR.pe (r := [(0, 1)]) (.cons (.mk (.con rfl) (.con rfl)) .nil) (by decide)) (pa_cons pe_int (pa_cons (Lit.neg (j := -1) rfl).pe pa_nil)))) (Lits.pe (is := [0]) (.cons (.con rfl) .nil) (by decide)) (nomark _))
        (pe_one (pe_cmpR (op_eqL hr.units) (pe_callD d_mirrored (hr.mono (by decide)) (by rfl) (pa_cons (LitR.pe (r := []) .nil (by decide)) pa_nil)) (Lits.pe (is := []) .nil (by decide)) (nomark _))))))))), ?_⟩
    intro xs1 H1 s1 l1 k1
    refine ⟨by rw [l1]; decide, fun kd hkd => ?_⟩
    refine ⟨_, rfl, fun xs2 H2 s2 l2 k2 => ⟨by rw [l2]; decide, fun p2 hp2 => ⟨kd, p2, xs1, xs2, rfl, rfl, (s2.trans (Same.upd hp2)) _ _ upd_same, upd_same, by rw [l1, l2]; decide, fun p3 hp3 => ?_⟩⟩⟩
    have s3 : Same H1 (L2.upd (L2.upd H2 p2 (.lst xs2)) p3 (.lst (xs1 ++ xs2))) := ((Same.upd hkd).trans s2).trans ((Same.upd hp2).trans (Same.upd hp3))
    have s4 : Same H (L2.upd (L2.upd H2 p2 (.lst xs2)) p3 (.lst (xs1 ++ xs2))) := s1.trans s3
    have kk : ∀ x ∈ xs1 ++ xs2, Knd P w K mg base (L2.upd (L2.upd H2 p2 (.lst xs2)) p3 (.lst (xs1 ++ xs2))) x := List.forall_mem_append.mpr ⟨fun x z => (k1 x z).same s3, fun x z => (k2 x z).same ((Same.upd hp2).trans (Same.upd hp3))⟩
    have h3 : (L2.upd (L2.upd H2 p2 (.lst xs2)) p3 (.lst (xs1 ++ xs2))) p3 = some (.lst (xs1 ++ xs2)) := upd_same
    generalize L2.upd (L2.upd H2 p2 (.lst xs2)) p3 (.lst (xs1 ++ xs2)) = H3 at s3 s4 kk h3 ⊢
    have hS3 := s4.seq hS
    generalize xs1 ++ xs2 = xs at kk h3 ⊢
    refine ⟨p3, rfl, ⟨_, SqL.of h3⟩, for_list (K := K) (a := p3) (xs := xs) (fun i σ H4 => (∃ o2 o3 o4 o5 o6 o7, σ = [some (.ref a), some (.ref kd), o2, o3, o4, o5, o6, o7]) ∧ Same H3 H4) ⟨⟨_, _, _, _, _, _, rfl⟩, Same.refl _⟩ (fun i σ H4 _ ⟨_, z⟩ => SqL.of (z _ _ h3)) ?_ ?_⟩
    · rintro i x σ H4 hi ⟨⟨o2, o3, o4, o5, o6, o7, rfl⟩, s5⟩
      obtain ⟨tp, ds, f, k, R, n, dl, rfl, ht, hd, h0, h1, hn0, hn1, fa, rf⟩ := ((kk x (List.mem_of_getElem? hi)).same s5).is
      have hS4 := s5.seq hS3
      refine ⟨tp, _, rfl, SqT.of ht, rfl, _, _, rfl, _, _, rfl, _, _, rfl, rfl, ?_⟩
      refine ⟨_, rfl, ds, rfl, ⟨_, SqL.of hd⟩, for_list (K := K) (a := ds) (xs := dl.map V.int) (fun i σ H5 => (∃ o5 o6 o7, σ = [some (.ref a), some (.ref kd), some (.ref ds), some (.ref f), some (.int k), o5, o6, o7]) ∧ Same H4 H5) ⟨⟨_, _, _, rfl⟩, Same.refl _⟩ (fun i σ H5 _ ⟨_, z⟩ => SqL.of (z _ _ hd)) ?_ ?_⟩
      · rintro j y σ H5 hj ⟨⟨o5, o6, o7, rfl⟩, s6⟩
        obtain ⟨lj, rfl⟩ := ints_get hj
        refine ⟨_, rfl, f, _, rfl, fa, _, rfl, a, _, rfl, .inl (s6.seq hS4), _, rfl, Int.natCast_nonneg _, fun v H6 l s7 il ln bad => ?_⟩
        obtain ⟨al, _, ys, e, rfl, hal, pl⟩ := il.lst_of rfl
        cases e
        have hys := pl.length
        refine ⟨al, rfl, ⟨ys, SqL.of hal⟩, comp_fil (n := ys.length) (fun _ => true) (fun _ => V.bl true) (by omega) (fun j H7 s8 hj => ⟨ys, _, SqL.of (s8 _ _ hal), List.getElem?_eq_getElem hj⟩) (fun H7 s8 => ⟨ys, SqL.of (s8 _ _ hal), Nat.le_refl _⟩) ?_ ?_⟩
        · rintro m x H7 H8 Q1 Q2 hm s8 ⟨rfl, hx⟩ y1 y2
          obtain ⟨t, ht, it⟩ := pl.get (hx ys (SqL.of (s8 _ _ hal)))
          exact ⟨⟨rfl, rfl⟩, _, rfl, _, rfl, _, rfl, _, t, x, k, rfl, it.same s8, rf _ (getD_mem lj) t (bad t (List.mem_of_getElem? ht)), fun H9 s9 => y1 rfl H9 s9⟩
        · intro D H7 hD s8 hd7
          refine ⟨D, _, rfl, SqL.of (hd7.trans (by rw [fil_bl])), _, rfl, ?_⟩
          rw [all_fil.mpr fun _ _ _ => rfl]
          exact iteF ⟨⟨_, _, _, rfl⟩, (s6.trans s7).trans s8⟩
      · rintro σ H5 ⟨⟨o5, o6, o7, rfl⟩, s6⟩
        refine ⟨_, rfl, a, rfl, ⟨_, s6.seq hS4⟩, for_list (K := K) (a := a) (xs := ns.map V.int) (fun i σ H6 => (∃ o6 o7, σ = [some (.ref a), some (.ref kd), some (.ref ds), some (.ref f), some (.int k), o5, o6, o7]) ∧ Same H5 H6) ⟨⟨_, _, rfl⟩, Same.refl _⟩ (fun i σ H6 _ ⟨_, z⟩ => z.seq (s6.seq hS4)) ?_ ?_⟩
        · rintro j y σ H6 hj ⟨⟨o6, o7, rfl⟩, s7⟩
          obtain ⟨lj, rfl⟩ := ints_get hj
          generalize ns.getD j 0 = z
          have hd6 := (s6.trans s7) _ _ hd
          refine ⟨_, rfl, f, _, rfl, fa, _, rfl, _, _, rfl, rfl, ⟨by decide, by decide, by decide⟩, _, _, rfl, rfl, pow_pos60, _, rfl, Int.emod_nonneg _ (Int.ne_of_gt pow_pos60), fun v H7 l s8 il ln bad => ?_⟩
          obtain ⟨al, _, ys, e, rfl, hal, pl⟩ := il.lst_of rfl
          cases e
          have hys := pl.length
          have hd7 := s8 _ _ hd6
          have ld : (dl.map V.int).length = dl.length := List.length_map _
          have p1 : (0 : Int) < ((dl.map V.int).length : Int) := by omega
          have p2 : (0 : Int) < (ys.length : Int) := by omega
          have e1 := Int.emod_nonneg z (Int.ne_of_gt p1)
          have e2 := Int.emod_lt_of_pos z p1
          have e3 := Int.emod_nonneg (z / ((dl.map V.int).length : Int)) (Int.ne_of_gt p2)
          have e4 := Int.emod_lt_of_pos (z / ((dl.map V.int).length : Int)) p2
          obtain ⟨j1, hj1⟩ := Int.eq_ofNat_of_zero_le e1
          obtain ⟨j2, hj2⟩ := Int.eq_ofNat_of_zero_le e3
          have lj1 : j1 < dl.length := by omega
          have lj2 : j2 < ys.length := by omega
          obtain ⟨t, ht, it⟩ := pl.get (List.getElem?_eq_getElem lj2)
          refine ⟨_, rfl, _, rfl, _, rfl, ds, _, rfl, .inl (SqL.of hd7), _, _, rfl, rfl, p1, ds, _, _, _, rfl, rfl, SqL.of hd7, atI_cast (j := j1) hj1 (ints_at lj1), ?_⟩
          refine ⟨_, rfl, _, rfl, _, rfl, ds, _, rfl, .inl (SqL.of hd7), _, _, rfl, rfl, ⟨p1, by omega⟩, _, rfl, al, _, rfl, .inl (SqL.of hal), _, _, rfl, rfl, p2, al, _, _, _, rfl, rfl, SqL.of hal, atI_cast (j := j2) hj2 (List.getElem?_eq_getElem lj2), ?_⟩
          refine ⟨_, rfl, _, t, _, k, rfl, it, rf _ (getD_mem lj1) t (bad t (List.mem_of_getElem? ht)), fun H8 s9 => ⟨_, rfl, iteF ⟨⟨_, _, rfl⟩, (s7.trans s8).trans s9⟩⟩⟩
        · rintro σ H6 ⟨⟨o6, o7, rfl⟩, s7⟩
          exact ⟨⟨_, _, _, _, _, _, rfl⟩, (s5.trans s6).trans s7⟩
    · rintro σ H4 ⟨⟨o2, o3, o4, o5, o6, o7, rfl⟩, s5⟩
      refine ⟨7, .int 0, _, 2, rfl, .int 0, .inr (.inr (.inr (.inr (.inl ⟨rfl, rfl, rfl⟩)))), fun H5 s6 => ⟨_, rfl, iteF ⟨zero_ok, fun p hp => ⟨4, .lst [], _, 1, rfl, .lst upd_same .nil, .inr (.inr (.inr (.inr (.inr (.inl ⟨rfl, rfl, rfl⟩))))), fun H6 s7 => ⟨_, rfl, iteF ?_⟩⟩⟩⟩⟩
      intro H7 tp s8 e8
      refine ⟨one_ok, fun p hp => ⟨5, .lst [.tup [.int 0, .int 1]], _, 1, rfl, .lst upd_same (.cons (.tup ((Same.upd hp) _ _ e8) (.cons (.int 0) (.cons (.int 1) .nil))) .nil), .inr (.inr (.inr (.inr (.inr (.inr ⟨rfl, rfl, rfl⟩))))), fun H8 s9 => ⟨_, rfl, iteF ?_⟩⟩⟩
      intro H9 l9 xs9 s10 e10 x10
      refine ⟨l9, [(0, 1)], 0, -1, rfl, ⟨⟨xs9, e10, x10⟩, good1, by decide⟩, by decide, .inr rfl, fun l2 Ha hl2 sa ea Hb lb sb eb => ?_⟩
      rw [fell_one] at ea
      refine ⟨l2, lb, _, rfl, rfl, .iL (ns := [0]) (ms := [0]) (SqL.of (sb _ _ ea)) (SqL.of eb), _, rfl, ?_⟩
      rw [decide_eq_true rfl]
      refine iteT fun Hc lc xsc sc ec xc => ⟨lc, [], rfl, ⟨⟨xsc, ec, xc⟩, good0, by decide⟩, fun l3 Hd hl3 sd ⟨xsd, ed, xd⟩ He le se ee => ?_⟩
      cases xd
      refine ⟨l3, le, _, rfl, rfl, .iL (ns := []) (ms := []) (SqL.of (se _ _ ed)) (SqL.of ee), ?_⟩
      rw [decide_eq_true rfl]
      exact q _
end
end Fk

set_option genSizeOf false
set_option genInjectivity false
namespace Fk
open PySem L2 PyProof.Rows Fm
theorem all_mk {l : PySem.W.OpenLaw} {w : World} {K : PySem.W.Frag} {h : Heap} {mg : Str → Option Value} {fa f1 f2 f3 f4 f5 f6 f7 f8 f9 f10 f11 f12 f13 f14 f15 f16 f17 f18 f19 f20 f21 f22 f23 f24 eF eR eS eD eT : Addr} {tk0 tk1 : Tok} (X : K.In h) (G : h.Ns mainGlobals mg) (hfa : mg "law" = some (.ref fa))
    {od1 an1 od2 an2 od3 an3 od4 an4 od5 an5 od6 an6 od7 an7 od8 an8 od9 an9 od10 an10 od11 an11 od12 an12 od13 an13 od14 an14 od15 an15 od16 an16 od17 an17 od18 an18 od19 an19 od20 an20 od21 an21 od22 an22 od23 an23 od24 an24 : Option Addr} {sl1 sl2 sl3 sl4 sl5 sl6 sl7 sl8 sl9 sl10 sl11 sl12 sl13 sl14 sl15 sl16 sl17 sl18 sl19 sl20 sl21 sl22 sl23 sl24 : Array (Option Value)} {oc1 kV1 dc1 pm1 cd1 ct1 oc2 kV2 dc2 pm2 cd2 ct2 oc3 kV3 dc3 pm3 cd3 ct3 oc4 kV4 dc4 pm4 cd4 ct4 oc5 kV5 dc5 pm5 cd5 ct5 oc6 kV6 dc6 pm6 cd6 ct6 oc7 kV7 dc7 pm7 cd7 ct7 oc8 kV8 dc8 pm8 cd8 ct8 oc9 kV9 dc9 pm9 cd9 ct9 oc10 kV10 dc10 pm10 cd10 ct10 oc11 kV11 dc11 pm11 cd11 ct11 oc12 kV12 dc12 pm12 cd12 ct12 oc13 kV13 dc13 pm13 cd13 ct13 oc14 kV14 dc14 pm14 cd14 ct14 oc15 kV15 dc15 pm15 cd15 ct15 oc16 kV16 dc16 pm16 cd16 ct16 oc17 kV17 dc17 pm17 cd17 ct17 oc18 kV18 dc18 pm18 cd18 ct18 oc19 kV19 dc19 pm19 cd19 ct19 oc20 kV20 dc20 pm20 cd20 ct20 oc21 kV21 dc21 pm21 cd21 ct21 oc22 kV22 dc22 pm22 cd22 ct22 oc23 kV23 dc23 pm23 cd23 ct23 oc24 kV24 dc24 pm24 cd24 ct24 : Value}
    (ugF : PySem.W.nsIn K mainGlobals "FallError" = some (some (.ref eF)))
    (ugR : PySem.W.nsIn K mainGlobals "BadRow" = some (some (.ref eR)))
    (ugS : PySem.W.nsIn K mainGlobals "BadStone" = some (some (.ref eS)))
    (ugD : PySem.W.nsIn K mainGlobals "BadSide" = some (some (.ref eD)))
    (ugT : PySem.W.nsIn K mainGlobals "BadText" = some (some (.ref eT)))
    (uv : PySem.W.nsIn K mainGlobals "ValueError" = some none)
    (a1 : PySem.W.nsIn K mainGlobals "is_number" = some (some (.ref f1)))
    (l1 : K.lookup f1 = some ⟨oc1, od1, .func (PySem.W.fnOf "is_number" "is_number" (defArgs sNum) (defBody sNum) (defScope sNum) .none kV1 dc1 pm1 an1 cd1 ct1), sl1⟩)
    (c1 : PySem.W.codeIn K cd1 "is_number" = true)
    (k1 : PySem.W.keepIn K (.ref f1) = true)
    (a2 : PySem.W.nsIn K mainGlobals "is_pair" = some (some (.ref f2)))
    (l2 : K.lookup f2 = some ⟨oc2, od2, .func (PySem.W.fnOf "is_pair" "is_pair" (defArgs sPair) (defBody sPair) (defScope sPair) .none kV2 dc2 pm2 an2 cd2 ct2), sl2⟩)
    (c2 : PySem.W.codeIn K cd2 "is_pair" = true)
    (k2 : PySem.W.keepIn K (.ref f2) = true)
    (a3 : PySem.W.nsIn K mainGlobals "is_stone" = some (some (.ref f3)))
    (l3 : K.lookup f3 = some ⟨oc3, od3, .func (PySem.W.fnOf "is_stone" "is_stone" (defArgs sStone) (defBody sStone) (defScope sStone) .none kV3 dc3 pm3 an3 cd3 ct3), sl3⟩)
    (c3 : PySem.W.codeIn K cd3 "is_stone" = true)
    (k3 : PySem.W.keepIn K (.ref f3) = true)
    (a4 : PySem.W.nsIn K mainGlobals "is_count" = some (some (.ref f4)))
    (l4 : K.lookup f4 = some ⟨oc4, od4, .func (PySem.W.fnOf "is_count" "is_count" (defArgs s_is_count) (defBody s_is_count) (defScope s_is_count) .none kV4 dc4 pm4 an4 cd4 ct4), sl4⟩)
    (c4 : PySem.W.codeIn K cd4 "is_count" = true)
    (k4 : PySem.W.keepIn K (.ref f4) = true)
    (a5 : PySem.W.nsIn K mainGlobals "is_side" = some (some (.ref f5)))
    (l5 : K.lookup f5 = some ⟨oc5, od5, .func (PySem.W.fnOf "is_side" "is_side" (defArgs s_is_side) (defBody s_is_side) (defScope s_is_side) .none kV5 dc5 pm5 an5 cd5 ct5), sl5⟩)
    (c5 : PySem.W.codeIn K cd5 "is_side" = true)
    (k5 : PySem.W.keepIn K (.ref f5) = true)
    (a6 : PySem.W.nsIn K mainGlobals "check_row" = some (some (.ref f6)))
    (l6 : K.lookup f6 = some ⟨oc6, od6, .func (PySem.W.fnOf "check_row" "check_row" (defArgs sChkRow) (defBody sChkRow) (defScope sChkRow) .none kV6 dc6 pm6 an6 cd6 ct6), sl6⟩)
    (c6 : PySem.W.codeIn K cd6 "check_row" = true)
    (k6 : PySem.W.keepIn K (.ref f6) = true)
    (a7 : PySem.W.nsIn K mainGlobals "check_stone" = some (some (.ref f7)))
    (l7 : K.lookup f7 = some ⟨oc7, od7, .func (PySem.W.fnOf "check_stone" "check_stone" (defArgs sChkStone) (defBody sChkStone) (defScope sChkStone) .none kV7 dc7 pm7 an7 cd7 ct7), sl7⟩)
    (c7 : PySem.W.codeIn K cd7 "check_stone" = true)
    (k7 : PySem.W.keepIn K (.ref f7) = true)
    (a8 : PySem.W.nsIn K mainGlobals "check_side" = some (some (.ref f8)))
    (l8 : K.lookup f8 = some ⟨oc8, od8, .func (PySem.W.fnOf "check_side" "check_side" (defArgs sChkSide) (defBody sChkSide) (defScope sChkSide) .none kV8 dc8 pm8 an8 cd8 ct8), sl8⟩)
    (c8 : PySem.W.codeIn K cd8 "check_side" = true)
    (k8 : PySem.W.keepIn K (.ref f8) = true)
    (a9 : PySem.W.nsIn K mainGlobals "check_push" = some (some (.ref f9)))
    (l9 : K.lookup f9 = some ⟨oc9, od9, .func (PySem.W.fnOf "check_push" "check_push" (defArgs s_check_push) (defBody s_check_push) (defScope s_check_push) .none kV9 dc9 pm9 an9 cd9 ct9), sl9⟩)
    (c9 : PySem.W.codeIn K cd9 "check_push" = true)
    (k9 : PySem.W.keepIn K (.ref f9) = true)
    (a10 : PySem.W.nsIn K mainGlobals "mirrored" = some (some (.ref f10)))
    (l10 : K.lookup f10 = some ⟨oc10, od10, .func (PySem.W.fnOf "mirrored" "mirrored" (defArgs sMirr) (defBody sMirr) (defScope sMirr) .none kV10 dc10 pm10 an10 cd10 ct10), sl10⟩)
    (c10 : PySem.W.codeIn K cd10 "mirrored" = true)
    (k10 : PySem.W.keepIn K (.ref f10) = true)
    (a11 : PySem.W.nsIn K mainGlobals "first_standing" = some (some (.ref f11)))
    (l11 : K.lookup f11 = some ⟨oc11, od11, .func (PySem.W.fnOf "first_standing" "first_standing" (defArgs sFirst) (defBody sFirst) (defScope sFirst) .none kV11 dc11 pm11 an11 cd11 ct11), sl11⟩)
    (c11 : PySem.W.codeIn K cd11 "first_standing" = true)
    (k11 : PySem.W.keepIn K (.ref f11) = true)
    (a12 : PySem.W.nsIn K mainGlobals "felled" = some (some (.ref f12)))
    (l12 : K.lookup f12 = some ⟨oc12, od12, .func (PySem.W.fnOf "felled" "felled" (defArgs sFell) (defBody sFell) (defScope sFell) .none kV12 dc12 pm12 an12 cd12 ct12), sl12⟩)
    (c12 : PySem.W.codeIn K cd12 "felled" = true)
    (k12 : PySem.W.keepIn K (.ref f12) = true)
    (a13 : PySem.W.nsIn K mainGlobals "reached" = some (some (.ref f13)))
    (l13 : K.lookup f13 = some ⟨oc13, od13, .func (PySem.W.fnOf "reached" "reached" (defArgs s_reached) (defBody s_reached) (defScope s_reached) .none kV13 dc13 pm13 an13 cd13 ct13), sl13⟩)
    (c13 : PySem.W.codeIn K cd13 "reached" = true)
    (k13 : PySem.W.keepIn K (.ref f13) = true)
    (a14 : PySem.W.nsIn K mainGlobals "fewest" = some (some (.ref f14)))
    (l14 : K.lookup f14 = some ⟨oc14, od14, .func (PySem.W.fnOf "fewest" "fewest" (defArgs s_fewest) (defBody s_fewest) (defScope s_fewest) .none kV14 dc14 pm14 an14 cd14 ct14), sl14⟩)
    (c14 : PySem.W.codeIn K cd14 "fewest" = true)
    (k14 : PySem.W.keepIn K (.ref f14) = true)
    (a15 : PySem.W.nsIn K mainGlobals "rights" = some (some (.ref f15)))
    (l15 : K.lookup f15 = some ⟨oc15, od15, .func (PySem.W.fnOf "rights" "rights" (defArgs s_rights) (defBody s_rights) (defScope s_rights) .none kV15 dc15 pm15 an15 cd15 ct15), sl15⟩)
    (c15 : PySem.W.codeIn K cd15 "rights" = true)
    (k15 : PySem.W.keepIn K (.ref f15) = true)
    (a16 : PySem.W.nsIn K mainGlobals "higher" = some (some (.ref f16)))
    (l16 : K.lookup f16 = some ⟨oc16, od16, .func (PySem.W.fnOf "higher" "higher" (defArgs s_higher) (defBody s_higher) (defScope s_higher) .none kV16 dc16 pm16 an16 cd16 ct16), sl16⟩)
    (c16 : PySem.W.codeIn K cd16 "higher" = true)
    (k16 : PySem.W.keepIn K (.ref f16) = true)
    (a17 : PySem.W.nsIn K mainGlobals "written" = some (some (.ref f17)))
    (l17 : K.lookup f17 = some ⟨oc17, od17, .func (PySem.W.fnOf "written" "written" (defArgs s_written) (defBody s_written) (defScope s_written) .none kV17 dc17 pm17 an17 cd17 ct17), sl17⟩)
    (c17 : PySem.W.codeIn K cd17 "written" = true)
    (k17 : PySem.W.keepIn K (.ref f17) = true)
    (a18 : PySem.W.nsIn K mainGlobals "_law_ask" = some (some (.ref f18)))
    (l18 : K.lookup f18 = some ⟨oc18, od18, .func (PySem.W.fnOf "_law_ask" "_law_ask" (defArgs s_law_ask) (defBody s_law_ask) (defScope s_law_ask) .none kV18 dc18 pm18 an18 cd18 ct18), sl18⟩)
    (c18 : PySem.W.codeIn K cd18 "_law_ask" = true)
    (k18 : PySem.W.keepIn K (.ref f18) = true)
    (a19 : PySem.W.nsIn K mainGlobals "_law_due" = some (some (.ref f19)))
    (l19 : K.lookup f19 = some ⟨oc19, od19, .func (PySem.W.fnOf "_law_due" "_law_due" (defArgs s_law_due) (defBody s_law_due) (defScope s_law_due) .none kV19 dc19 pm19 an19 cd19 ct19), sl19⟩)
    (c19 : PySem.W.codeIn K cd19 "_law_due" = true)
    (k19 : PySem.W.keepIn K (.ref f19) = true)
    (a20 : PySem.W.nsIn K mainGlobals "_law_rows" = some (some (.ref f20)))
    (l20 : K.lookup f20 = some ⟨oc20, od20, .func (PySem.W.fnOf "_law_rows" "_law_rows" (defArgs s_law_rows) (defBody s_law_rows) (defScope s_law_rows) .none kV20 dc20 pm20 an20 cd20 ct20), sl20⟩)
    (c20 : PySem.W.codeIn K cd20 "_law_rows" = true)
    (k20 : PySem.W.keepIn K (.ref f20) = true)
    (a21 : PySem.W.nsIn K mainGlobals "_law_stones" = some (some (.ref f21)))
    (l21 : K.lookup f21 = some ⟨oc21, od21, .func (PySem.W.fnOf "_law_stones" "_law_stones" (defArgs s_law_stones) (defBody s_law_stones) (defScope s_law_stones) .none kV21 dc21 pm21 an21 cd21 ct21), sl21⟩)
    (c21 : PySem.W.codeIn K cd21 "_law_stones" = true)
    (k21 : PySem.W.keepIn K (.ref f21) = true)
    (a22 : PySem.W.nsIn K mainGlobals "_law_sides" = some (some (.ref f22)))
    (l22 : K.lookup f22 = some ⟨oc22, od22, .func (PySem.W.fnOf "_law_sides" "_law_sides" (defArgs s_law_sides) (defBody s_law_sides) (defScope s_law_sides) .none kV22 dc22 pm22 an22 cd22 ct22), sl22⟩)
    (c22 : PySem.W.codeIn K cd22 "_law_sides" = true)
    (k22 : PySem.W.keepIn K (.ref f22) = true)
    (a23 : PySem.W.nsIn K mainGlobals "_law_pushes" = some (some (.ref f23)))
    (l23 : K.lookup f23 = some ⟨oc23, od23, .func (PySem.W.fnOf "_law_pushes" "_law_pushes" (defArgs s_law_pushes) (defBody s_law_pushes) (defScope s_law_pushes) .none kV23 dc23 pm23 an23 cd23 ct23), sl23⟩)
    (c23 : PySem.W.codeIn K cd23 "_law_pushes" = true)
    (k23 : PySem.W.keepIn K (.ref f23) = true)
    (a24 : PySem.W.nsIn K mainGlobals "law" = some (some (.ref f24)))
    (l24 : K.lookup f24 = some ⟨oc24, od24, .func (PySem.W.fnOf "law" "law" (defArgs sLaw) (defBody sLaw) (defScope sLaw) .none kV24 dc24 pm24 an24 cd24 ct24), sl24⟩)
    (c24 : PySem.W.codeIn K cd24 "law" = true)
    (k24 : PySem.W.keepIn K (.ref f24) = true)
    (e0 : PySem.W.nsIn K mainGlobals "RIGHT" = some (some (.int (1) tk0)))
    (e1 : PySem.W.nsIn K mainGlobals "LEFT" = some (some (.int (-1) tk1)))
    (z0 : PySem.W.nsIn K mainGlobals "len" = some none)
    (z1 : PySem.W.nsIn K mainGlobals "isinstance" = some none)
    (z2 : PySem.W.nsIn K mainGlobals "int" = some none)
    (z3 : PySem.W.nsIn K mainGlobals "bool" = some none)
    (z4 : PySem.W.nsIn K mainGlobals "list" = some none)
    (z5 : PySem.W.nsIn K mainGlobals "tuple" = some none)
    (z6 : PySem.W.nsIn K mainGlobals "range" = some none)
    (z7 : PySem.W.nsIn K mainGlobals "reversed" = some none)
    (z8 : PySem.W.nsIn K mainGlobals "max" = some none)
    (z9 : PySem.W.nsIn K mainGlobals "abs" = some none)
    (z10 : PySem.W.nsIn K mainGlobals "sum" = some none)
    (z11 : PySem.W.nsIn K mainGlobals "all" = some none)
    (z12 : PySem.W.nsIn K mainGlobals "sorted" = some none)
    (z13 : PySem.W.nsIn K mainGlobals "set" = some none)
    (z14 : PySem.W.nsIn K mainGlobals "any" = some none)
    (z15 : PySem.W.nsIn K mainGlobals "min" = some none)
    (z16 : PySem.W.nsIn K mainGlobals "zip" = some none)
    (z17 : PySem.W.nsIn K mainGlobals "enumerate" = some none)
    (z18 : PySem.W.nsIn K mainGlobals "str" = some none)
    (x1R : PySem.W.excIn K eR [.type "ValueError", .type "Exception", .type "BaseException", .type "object"] "ValueError.__new__" = true)
    (x2R : PySem.W.findIn K (.ref eR) "__getattribute__" = some (some (.builtin "BaseException.__getattribute__")))
    (x6R : PySem.W.findIn K (.ref eR) "__getattr__" = some none)
    (x7R : PySem.W.mroIn K eR (.type "BaseException") = some true)
    (x3R : PySem.W.findIn K (.ref eR) "__class__" = some (some (.builtin "object.__class__")))
    (x4R : PySem.W.mroIn K eR (.type "object") = some true)
    (x5R : PySem.W.mroIn K eR (.type "ValueError") = some true)
    (x1S : PySem.W.excIn K eS [.type "ValueError", .type "Exception", .type "BaseException", .type "object"] "ValueError.__new__" = true)
    (x2S : PySem.W.findIn K (.ref eS) "__getattribute__" = some (some (.builtin "BaseException.__getattribute__")))
    (x6S : PySem.W.findIn K (.ref eS) "__getattr__" = some none)
    (x7S : PySem.W.mroIn K eS (.type "BaseException") = some true)
    (x3S : PySem.W.findIn K (.ref eS) "__class__" = some (some (.builtin "object.__class__")))
    (x4S : PySem.W.mroIn K eS (.type "object") = some true)
    (x5S : PySem.W.mroIn K eS (.type "ValueError") = some true)
    (x1D : PySem.W.excIn K eD [.type "ValueError", .type "Exception", .type "BaseException", .type "object"] "ValueError.__new__" = true)
    (x2D : PySem.W.findIn K (.ref eD) "__getattribute__" = some (some (.builtin "BaseException.__getattribute__")))
    (x6D : PySem.W.findIn K (.ref eD) "__getattr__" = some none)
    (x7D : PySem.W.mroIn K eD (.type "BaseException") = some true)
    (x3D : PySem.W.findIn K (.ref eD) "__class__" = some (some (.builtin "object.__class__")))
    (x4D : PySem.W.mroIn K eD (.type "object") = some true)
    (x5D : PySem.W.mroIn K eD (.type "ValueError") = some true)
    (xg : PySem.W.specialIn K (.builtin "object.__class__") "__get__" = some (some (.builtin "getset_descriptor.__get__")))
    (xt : PySem.W.takesIn K (.builtin "object.__class__") = some true)
    (xb : PySem.W.mroIn K eF (.type "BaseException") = some true)
    (qF : PySem.W.isClsIn K eF = true)
    (tF : PySem.W.typeIn K (.ref eF) = some (.type "type"))
    (qR : PySem.W.isClsIn K eR = true)
    (tR : PySem.W.typeIn K (.ref eR) = some (.type "type"))
    (qS : PySem.W.isClsIn K eS = true)
    (tS : PySem.W.typeIn K (.ref eS) = some (.type "type"))
    (qD : PySem.W.isClsIn K eD = true)
    (tD : PySem.W.typeIn K (.ref eD) = some (.type "type"))
    (qT : PySem.W.isClsIn K eT = true)
    (tT : PySem.W.typeIn K (.ref eT) = some (.type "type"))
    (rRF : PySem.W.mroIn K eR (.ref eF) = some true)
    (rRR : PySem.W.mroIn K eR (.ref eR) = some true)
    (rRS : PySem.W.mroIn K eR (.ref eS) = some false)
    (rRD : PySem.W.mroIn K eR (.ref eD) = some false)
    (rRT : PySem.W.mroIn K eR (.ref eT) = some false)
    (rSF : PySem.W.mroIn K eS (.ref eF) = some true)
    (rSR : PySem.W.mroIn K eS (.ref eR) = some false)
    (rSS : PySem.W.mroIn K eS (.ref eS) = some true)
    (rSD : PySem.W.mroIn K eS (.ref eD) = some false)
    (rST : PySem.W.mroIn K eS (.ref eT) = some false)
    (rDF : PySem.W.mroIn K eD (.ref eF) = some true)
    (rDR : PySem.W.mroIn K eD (.ref eR) = some false)
    (rDS : PySem.W.mroIn K eD (.ref eS) = some false)
    (rDD : PySem.W.mroIn K eD (.ref eD) = some true)
    (rDT : PySem.W.mroIn K eD (.ref eT) = some false)
    : ∃ fd : FuncData, (∀ (s : Shared) (v : Value), BindsTo s fd ⟨[v], []⟩ [("_law_script", v)]) ∧ ∀ base : Heap, K.In base → base.Ns mainGlobals mg → FnOk l.prog w K mg base CX0 8 fa fd ["_law_script"] (spLaw K) := by
  have e := hfa.symm.trans (PySem.W.mg_of X G a24)
  cases e
  have B : Blt mg := ⟨PySem.W.mg_none_of X G z0, PySem.W.mg_none_of X G z1, PySem.W.mg_none_of X G z2, PySem.W.mg_none_of X G z3, PySem.W.mg_none_of X G z4, PySem.W.mg_none_of X G z5, PySem.W.mg_none_of X G z6, PySem.W.mg_none_of X G z7, PySem.W.mg_none_of X G z8, PySem.W.mg_none_of X G z9, PySem.W.mg_none_of X G z10, PySem.W.mg_none_of X G z11, PySem.W.mg_none_of X G z12, PySem.W.mg_none_of X G z13, PySem.W.mg_none_of X G z14, PySem.W.mg_none_of X G z15, PySem.W.mg_none_of X G z16, PySem.W.mg_none_of X G z17, PySem.W.mg_none_of X G z18⟩
  have C : Cst mg tk0 tk1 := ⟨PySem.W.mg_of X G e0, PySem.W.mg_of X G e1⟩
  have T : Ex K mg eF eR eS eD eT := ⟨PySem.W.mg_of X G ugF, PySem.W.mg_of X G ugR, PySem.W.mg_of X G ugS, PySem.W.mg_of X G ugD, PySem.W.mg_of X G ugT, PySem.W.mg_none_of X G uv, ⟨⟨x1R, qR, x2R, x6R, x7R, x3R, xg, xt, x4R⟩, exm_own xb qF tF rRF, kit_own qR tR rRR rRR, kit_own qS tS rRS rRR, kit_own qD tD rRD rRR, kit_own qT tT rRT rRR, kit_val x5R⟩, ⟨⟨x1S, qS, x2S, x6S, x7S, x3S, xg, xt, x4S⟩, exm_own xb qF tF rSF, kit_own qR tR rSR rSS, kit_own qS tS rSS rSS, kit_own qD tD rSD rSS, kit_own qT tT rST rSS, kit_val x5S⟩, ⟨⟨x1D, qD, x2D, x6D, x7D, x3D, xg, xt, x4D⟩, exm_own xb qF tF rDF, kit_own qR tR rDR rDD, kit_own qS tS rDS rDD, kit_own qD tD rDD rDD, kit_own qT tT rDT rDD, kit_val x5D⟩⟩
  have F1 := fun_mk (st := sNum) l1 c1 k1
  have F2 := fun_mk (st := sPair) l2 c2 k2
  have F3 := fun_mk (st := sStone) l3 c3 k3
  have F4 := fun_mk (st := s_is_count) l4 c4 k4
  have F5 := fun_mk (st := s_is_side) l5 c5 k5
  have F6 := fun_mk (st := sChkRow) l6 c6 k6
  have F7 := fun_mk (st := sChkStone) l7 c7 k7
  have F8 := fun_mk (st := sChkSide) l8 c8 k8
  have F9 := fun_mk (st := s_check_push) l9 c9 k9
  have F10 := fun_mk (st := sMirr) l10 c10 k10
  have F11 := fun_mk (st := sFirst) l11 c11 k11
  have F12 := fun_mk (st := sFell) l12 c12 k12
  have F13 := fun_mk (st := s_reached) l13 c13 k13
  have F14 := fun_mk (st := s_fewest) l14 c14 k14
  have F15 := fun_mk (st := s_rights) l15 c15 k15
  have F16 := fun_mk (st := s_higher) l16 c16 k16
  have F17 := fun_mk (st := s_written) l17 c17 k17
  have F18 := fun_mk (st := s_law_ask) l18 c18 k18
  have F19 := fun_mk (st := s_law_due) l19 c19 k19
  have F20 := fun_mk (st := s_law_rows) l20 c20 k20
  have F21 := fun_mk (st := s_law_stones) l21 c21 k21
  have F22 := fun_mk (st := s_law_sides) l22 c22 k22
  have F23 := fun_mk (st := s_law_pushes) l23 c23 k23
  have F24 := fun_mk (st := sLaw) l24 c24 k24
  have b1 := F1.binds (ps := ["value"]) fun _ _ _ _ _ _ us hl => match us, hl with | [_], _ => rfl
  have b2 := F2.binds (ps := ["value"]) fun _ _ _ _ _ _ us hl => match us, hl with | [_], _ => rfl
  have b3 := F3.binds (ps := ["value"]) fun _ _ _ _ _ _ us hl => match us, hl with | [_], _ => rfl
  have b4 := F4.binds (ps := ["row", "value"]) fun _ _ _ _ _ _ us hl => match us, hl with | [_, _], _ => rfl
  have b5 := F5.binds (ps := ["value"]) fun _ _ _ _ _ _ us hl => match us, hl with | [_], _ => rfl
  have b6 := F6.binds (ps := ["row"]) fun _ _ _ _ _ _ us hl => match us, hl with | [_], _ => rfl
  have b7 := F7.binds (ps := ["row", "stone"]) fun _ _ _ _ _ _ us hl => match us, hl with | [_, _], _ => rfl
  have b8 := F8.binds (ps := ["side"]) fun _ _ _ _ _ _ us hl => match us, hl with | [_], _ => rfl
  have b9 := F9.binds (ps := ["row", "push"]) fun _ _ _ _ _ _ us hl => match us, hl with | [_, _], _ => rfl
  have b10 := F10.binds (ps := ["row"]) fun _ _ _ _ _ _ us hl => match us, hl with | [_], _ => rfl
  have b11 := F11.binds (ps := ["row", "stone"]) fun _ _ _ _ _ _ us hl => match us, hl with | [_, _], _ => rfl
  have b12 := F12.binds (ps := ["row", "stone", "side"]) fun _ _ _ _ _ _ us hl => match us, hl with | [_, _, _], _ => rfl
  have b13 := F13.binds (ps := ["row", "push", "stone"]) fun _ _ _ _ _ _ us hl => match us, hl with | [_, _, _], _ => rfl
  have b14 := F14.binds (ps := ["row"]) fun _ _ _ _ _ _ us hl => match us, hl with | [_], _ => rfl
  have b15 := F15.binds (ps := ["row"]) fun _ _ _ _ _ _ us hl => match us, hl with | [_], _ => rfl
  have b16 := F16.binds (ps := ["row", "stone"]) fun _ _ _ _ _ _ us hl => match us, hl with | [_, _], _ => rfl
  have b17 := F17.binds (ps := ["row"]) fun _ _ _ _ _ _ us hl => match us, hl with | [_], _ => rfl
  have b18 := F18.binds (ps := ["_law_door", "_law_thing"]) fun _ _ _ _ _ _ us hl => match us, hl with | [_, _], _ => rfl
  have b19 := F19.binds (ps := ["_law_door", "_law_thing", "_law_due_here"]) fun _ _ _ _ _ _ us hl => match us, hl with | [_, _, _], _ => rfl
  have b20 := F20.binds (ps := ["_law_cell"]) fun _ _ _ _ _ _ us hl => match us, hl with | [_], _ => rfl
  have b21 := F21.binds (ps := ["_law_cell"]) fun _ _ _ _ _ _ us hl => match us, hl with | [_], _ => rfl
  have b22 := F22.binds (ps := ["_law_cell"]) fun _ _ _ _ _ _ us hl => match us, hl with | [_], _ => rfl
  have b23 := F23.binds (ps := ["_law_cell"]) fun _ _ _ _ _ _ us hl => match us, hl with | [_], _ => rfl
  refine ⟨PySem.W.fnOf "law" "law" (defArgs sLaw) (defBody sLaw) (defScope sLaw) .none kV24 dc24 pm24 an24 cd24 ct24, fun s v => .of_eq rfl, fun base _ _ => ?_⟩
  have d_is_number : Dfn l.prog w K mg base "is_number" 1 ["value"] (spNum K) := ⟨f1, _, PySem.W.mg_of X G a1, k1, b1, ok_num F1 B⟩
  have d_is_pair : Dfn l.prog w K mg base "is_pair" 1 ["value"] (spPair K) := ⟨f2, _, PySem.W.mg_of X G a2, k2, b2, ok_pair F2 B⟩
  have d_is_stone : Dfn l.prog w K mg base "is_stone" 2 ["value"] (spStone) := ⟨f3, _, PySem.W.mg_of X G a3, k3, b3, ok_stone F3 B d_is_pair d_is_number⟩
  have d_stn : Dfn l.prog w K mg base "is_stone" 2 ["value"] (spStn) := ⟨f3, _, PySem.W.mg_of X G a3, k3, b3, ok_stn F3 B d_is_pair d_is_number⟩
  have d_is_count : Dfn l.prog w K mg base "is_count" 2 ["row", "value"] (spCount K) := ⟨f4, _, PySem.W.mg_of X G a4, k4, b4, ok_count F4 B d_is_number⟩
  have d_is_side : Dfn l.prog w K mg base "is_side" 2 ["value"] (spSide K) := ⟨f5, _, PySem.W.mg_of X G a5, k5, b5, ok_side F5 B C d_is_number⟩
  have d_check_row : Dfn l.prog w K mg base "check_row" 3 ["row"] (spChkRow) := ⟨f6, _, PySem.W.mg_of X G a6, k6, b6, ok_chkRow F6 B d_is_stone⟩
  have d_cr : DfnE l.prog w K mg base "check_row" 3 ["row"] (spCR eR) := ⟨f6, _, PySem.W.mg_of X G a6, k6, b6, ok_cr F6 B T d_is_stone d_stn⟩
  have d_check_stone : Dfn l.prog w K mg base "check_stone" 3 ["row", "stone"] (spChkStone) := ⟨f7, _, PySem.W.mg_of X G a7, k7, b7, ok_chkStone F7 B d_is_count⟩
  have d_cs : DfnE l.prog w K mg base "check_stone" 3 ["row", "stone"] (spCS eS) := ⟨f7, _, PySem.W.mg_of X G a7, k7, b7, ok_cs F7 B T d_is_count⟩
  have d_check_side : Dfn l.prog w K mg base "check_side" 3 ["side"] (spChkSide) := ⟨f8, _, PySem.W.mg_of X G a8, k8, b8, ok_chkSide F8 d_is_side⟩
  have d_cd : DfnE l.prog w K mg base "check_side" 3 ["side"] (spCD eD) := ⟨f8, _, PySem.W.mg_of X G a8, k8, b8, ok_cd F8 T d_is_side⟩
  have d_cp : DfnE l.prog w K mg base "check_push" 4 ["row", "push"] (spCP eS eD) := ⟨f9, _, PySem.W.mg_of X G a9, k9, b9, ok_cp F9 B T d_is_pair d_cs d_cd⟩
  have d_mirrored : Dfn l.prog w K mg base "mirrored" 4 ["row"] (spMirr) := ⟨f10, _, PySem.W.mg_of X G a10, k10, b10, ok_mirr F10 B d_check_row⟩
  have d_mirrE : DfnE l.prog w K mg base "mirrored" 4 ["row"] (spCRb eR) := ⟨f10, _, PySem.W.mg_of X G a10, k10, b10, ok_mirrE F10 d_cr⟩
  have d_first_standing : Dfn l.prog w K mg base "first_standing" 1 ["row", "stone"] (spFirst) := ⟨f11, _, PySem.W.mg_of X G a11, k11, b11, ok_first F11 B⟩
  have d_felled : Dfn l.prog w K mg base "felled" 5 ["row", "stone", "side"] (spFell) := ⟨f12, _, PySem.W.mg_of X G a12, k12, b12, ok_fell F12 B C d_check_row d_check_stone d_check_side d_first_standing d_mirrored⟩
  have d_fellE : DfnE l.prog w K mg base "felled" 4 ["row", "stone", "side"] (spFE eR eS eD) := ⟨f12, _, PySem.W.mg_of X G a12, k12, b12, ok_fellE F12 d_cr d_cs d_cd⟩
  have d_reaE : DfnE l.prog w K mg base "reached" 5 ["row", "push", "stone"] (spRE eR eS eD) := ⟨f13, _, PySem.W.mg_of X G a13, k13, b13, ok_reaE F13 d_cr d_cp d_cs⟩
  have d_fewE : DfnE l.prog w K mg base "fewest" 4 ["row"] (spCRb eR) := ⟨f14, _, PySem.W.mg_of X G a14, k14, b14, ok_fewE F14 d_cr⟩
  have d_rigE : DfnE l.prog w K mg base "rights" 4 ["row"] (spCRb eR) := ⟨f15, _, PySem.W.mg_of X G a15, k15, b15, ok_rigE F15 d_cr⟩
  have d_higE : DfnE l.prog w K mg base "higher" 4 ["row", "stone"] (spHE eR eS) := ⟨f16, _, PySem.W.mg_of X G a16, k16, b16, ok_higE F16 d_cr d_cs⟩
  have d_wriE : DfnE l.prog w K mg base "written" 4 ["row"] (spCRb eR) := ⟨f17, _, PySem.W.mg_of X G a17, k17, b17, ok_wriE F17 d_cr⟩
  have d_ask : DfnE l.prog w K mg base "_law_ask" 6 ["_law_door", "_law_thing"] (spAsk eR eS eD) := ⟨f18, _, PySem.W.mg_of X G a18, k18, b18, ok_ask F18 d_mirrE d_fewE d_rigE d_wriE d_fellE d_higE d_reaE⟩
  have d_due : Dfn l.prog w K mg base "_law_due" 7 ["_law_door", "_law_thing", "_law_due_here"] (spDue8) := ⟨f19, _, PySem.W.mg_of X G a19, k19, b19, ok_due8 F19 B T d_ask⟩
  have d_rows : Dfn l.prog w K mg base "_law_rows" 1 ["_law_cell"] (spThings RowBad 24) := ⟨f20, _, PySem.W.mg_of X G a20, k20, b20, ok_rows F20 ⟩
  have d_stns : Dfn l.prog w K mg base "_law_stones" 1 ["_law_cell"] (spThings (StoneBad 3) 10) := ⟨f21, _, PySem.W.mg_of X G a21, k21, b21, ok_stns F21 ⟩
  have d_sds : Dfn l.prog w K mg base "_law_sides" 1 ["_law_cell"] (spThings SideBad 9) := ⟨f22, _, PySem.W.mg_of X G a22, k22, b22, ok_sds F22 ⟩
  have d_pshs : Dfn l.prog w K mg base "_law_pushes" 1 ["_law_cell"] (spThings (PushBad 3) 10) := ⟨f23, _, PySem.W.mg_of X G a23, k23, b23, ok_pshs F23 ⟩
  exact ok_law8 F24 B d_rows d_stns d_sds d_pshs d_due d_felled d_mirrored
theorem walk {l : PySem.W.OpenLaw} {q : Program} {loose : List Str} {XP : (Str → Option Value) → Heap → Prop} {YP : World → Heap → Prop} {d : DefRec} {K : Params → PySem.W.Frag} (hn : l.most = some 63) (hdf : d.params.defaults = [])
    (hY : ∀ (w : World) (h : Heap), YP w h → (K w.params).In h)
    (F : ∀ (w : World) (mg : Str → Option Value) (fa : Addr) (h : Heap), (K w.params).In h → h.Ns mainGlobals mg → mg d.name = some (.ref fa) →
      ∃ fd : FuncData, (∀ (s : Shared) (u : Value), BindsTo s fd ⟨[u], []⟩ [("_law_script", u)]) ∧ ∀ base : Heap, (K w.params).In base → base.Ns mainGlobals mg → FnOk l.prog w (K w.params) mg base CX0 8 fa fd ["_law_script"] (spLaw (K w.params))) :
    PySem.W.WalkO q loose XP YP l.row.toRowW d [] (fun f vs => PySem.call f vs) :=
  L2.walk_of (n := 63) (k := 8) (x := "_law_script") (CX := fun _ => CX0) (sp := fun w => spLaw (K w.params)) hn (by decide) hdf ⟨rfl, by decide, by decide⟩ hY F (fun _ _ a ns hl _ hS => ⟨a, ns, rfl, hS, hl, fun _ => rfl⟩) fun _ _ _ _ _ z => z
end Fk
theorem PySem.W.Fast.tw5121048091260174745 : True := trivial
theorem PySem.W.Fast.tw8586709122776648531 : True := trivial
theorem PySem.W.Fast.tw4726390450127458047 : True := trivial
theorem PySem.W.Fast.tw15623781132505163290 : True := trivial
theorem PySem.W.Fast.tw12460224292339492159 : True := trivial
theorem PySem.W.Fast.tw590418038421004944 : True := trivial
theorem PySem.W.Fast.tw3486299242866133826 : True := trivial
theorem PySem.W.Fast.tw2446840596014274669 : True := trivial
theorem PySem.W.Fast.tw17512440743215347004 : True := trivial
theorem PySem.W.Fast.tw11504980773377884599 : True := trivial
theorem PySem.W.Fast.tw14741992838319924406 : True := trivial
theorem PySem.W.Fast.tw14792901505810043902 : True := trivial
theorem PySem.W.Fast.tw12268916439288782158 : True := trivial
theorem PySem.W.Fast.tw15525705304160294644 : True := trivial
theorem PySem.W.Fast.tw7919185242815169985 : True := trivial
theorem PySem.W.Fast.tw4599607161040982508 : True := trivial
theorem PySem.W.Fast.tw5940236688335025791 : True := trivial
theorem PySem.W.Fast.tw13526832826417081550 : True := trivial
theorem PySem.W.Fast.tw14204939371490172248 : True := trivial
theorem PySem.W.Fast.tw6487294082054966467 : True := trivial
theorem PySem.W.Fast.tw10474514300916119849 : True := trivial
theorem PySem.W.Fast.tw5753715884718705481 : True := trivial
theorem PySem.W.Fast.tw13318511727713302815 : True := trivial
theorem PySem.W.Fast.tw4594621773590428612 : True := trivial
theorem PySem.W.Fast.tw9880647126378879718 : True := trivial
theorem PySem.W.Fast.tw18144578558913736474 : True := trivial
theorem PySem.W.Fast.tw11071963655174807681 : True := trivial
theorem PySem.W.Fast.tw4248916950695449370 : True := trivial
theorem PySem.W.Fast.tw14135449694261689094 : True := trivial
theorem PySem.W.Fast.tw17373064957957002907 : True := trivial
theorem PySem.W.Fast.tw1468196409192947941 : True := trivial
theorem PySem.W.Fast.tw1794437817576906538 : True := trivial
theorem PySem.W.Fast.tw16374984710824726668 : True := trivial
theorem PySem.W.Fast.tw6149604713448920502 : True := trivial
theorem PySem.W.Fast.tw2515747569498757226 : True := trivial
theorem PySem.W.Fast.tw14742495444021390250 : True := trivial
theorem PySem.W.Fast.tw11481697876612408779 : True := trivial
theorem PySem.W.Fast.tw17664796873210241674 : True := trivial
theorem PySem.W.Fast.tw9068256377216061423 : True := trivial
theorem PySem.W.Fast.tw16278118878812502773 : True := trivial
theorem PySem.W.Fast.tw9848432274939165498 : True := trivial
theorem PySem.W.Fast.tw12049037344143536606 : True := trivial
theorem PySem.W.Fast.tw10013941205405884317 : True := trivial
theorem PySem.W.Fast.tw2743801969188948182 : True := trivial
theorem PySem.W.Fast.tw6749881464201848204 : True := trivial
theorem PySem.W.Fast.tw17932413015568473997 : True := trivial
theorem PySem.W.Fast.tw10387635124177056946 : True := trivial
theorem PySem.W.Fast.tw16694645792268950116 : True := trivial
theorem PySem.W.Fast.tw9877310565484202302 : True := trivial
theorem PySem.W.Fast.tw13566924890145771048 : True := trivial
theorem PySem.W.Fast.tw5337420320864891197 : True := trivial
theorem PySem.W.Fast.tw11054566834538107213 : True := trivial
theorem PySem.W.Fast.tw5545186610432553015 : True := trivial
theorem PySem.W.Fast.tw11123266216629631279 : True := trivial
theorem PySem.W.Fast.tw3076311079658637345 : True := trivial
theorem PySem.W.Fast.tw8975977001440537050 : True := trivial
theorem PySem.W.Fast.tw11403141274243368124 : True := trivial
theorem PySem.W.Fast.tw17335925317246216383 : True := trivial
theorem PySem.W.Fast.tw17115727642840633247 : True := trivial
theorem PySem.W.Fast.tw14946536928908041673 : True := trivial
theorem PySem.W.Fast.tw2571741911101255707 : True := trivial
theorem PySem.W.Fast.tw4017944132344628980 : True := trivial
theorem PySem.W.Fast.tw13072019674873460479 : True := trivial
theorem PySem.W.Fast.tw1884045958198110136 : True := trivial
theorem PySem.W.Fast.tw16600277411974016044 : True := trivial
theorem PySem.W.Fast.tw4686857298054023006 : True := trivial
theorem PySem.W.Fast.tw16401615095215718846 : True := trivial
theorem PySem.W.Fast.tw8454016654068236086 : True := trivial
theorem PySem.W.Fast.tw9322451068176356472 : True := trivial
theorem PySem.W.Fast.tw10562361256850927672 : True := trivial
theorem PySem.W.Fast.tw7099015018169554613 : True := trivial
theorem PySem.W.Fast.tw4939687148920897762 : True := trivial
theorem PySem.W.Fast.tw1693866396593704683 : True := trivial
theorem PySem.W.Fast.tw6785949289082147883 : True := trivial
theorem PySem.W.Fast.tw1470393072648068649 : True := trivial
theorem PySem.W.Fast.tw17565336710971450204 : True := trivial
theorem PySem.W.Fast.tw4832817907916565665 : True := trivial
theorem PySem.W.Fast.tw10368740441191249568 : True := trivial
theorem PySem.W.Fast.tw8079743445940725428 : True := trivial
theorem PySem.W.Fast.tw337914089835933129 : True := trivial
theorem PySem.W.Fast.tw5874038183808609898 : True := trivial
theorem PySem.W.Fast.tw8618236648800406677 : True := trivial
theorem PySem.W.Fast.tw15188316409652918094 : True := trivial
theorem PySem.W.Fast.tw1113979812080979251 : True := trivial
theorem PySem.W.Fast.tw17943580719886689167 : True := trivial
theorem PySem.W.Fast.tw10688235061597358406 : True := trivial
theorem PySem.W.Fast.tw226660146433643789 : True := trivial
theorem PySem.W.Fast.tw3380375531297345153 : True := trivial
theorem PySem.W.Fast.tw10345985611145864244 : True := trivial
theorem PySem.W.Fast.tw12127464561913683184 : True := trivial
theorem PySem.W.Fast.tw2373093833338538291 : True := trivial
theorem PySem.W.Fast.tw4889974129116724500 : True := trivial
theorem PySem.W.Fast.tw5896847114072071315 : True := trivial
theorem PySem.W.Fast.tw6695436887070711375 : True := trivial
theorem PySem.W.Fast.tw16342876576265337002 : True := trivial
theorem PySem.W.Fast.tw6224587765109172150 : True := trivial
theorem PySem.W.Fast.tw1361118989526282463 : True := trivial
theorem PySem.W.Fast.tw17413512673915829793 : True := trivial
theorem PySem.W.Fast.tw14412884904762079622 : True := trivial
theorem PySem.W.Fast.tw2666392864314948239 : True := trivial
theorem PySem.W.Fast.tw1600385031017742128 : True := trivial
theorem PySem.W.Fast.tw6900155998471314071 : True := trivial
theorem PySem.W.Fast.tw15993370999917051181 : True := trivial
theorem PySem.W.Fast.tw15128811596078978975 : True := trivial
theorem PySem.W.Fast.tw6016746988847225674 : True := trivial
theorem PySem.W.Fast.tw9933486868225012631 : True := trivial
theorem PySem.W.Fast.tw14656895769366227213 : True := trivial
theorem PySem.W.Fast.tw4291696373904727624 : True := trivial
theorem PySem.W.Fast.tw10755613533467602999 : True := trivial
theorem PySem.W.Fast.tw11190213035467791400 : True := trivial
theorem PySem.W.Fast.tw13230314964524260024 : True := trivial
theorem PySem.W.Fast.tw2139090535095598827 : True := trivial
theorem PySem.W.Fast.tw5176760554718757782 : True := trivial
theorem PySem.W.Fast.tw15077054313051084645 : True := trivial
theorem PySem.W.Fast.tw14615075000531570577 : True := trivial
theorem PySem.W.Fast.tw9139659830896848320 : True := trivial
theorem PySem.W.Fast.tw8904136703734909512 : True := trivial
theorem PySem.W.Fast.tw3402868413145744645 : True := trivial
theorem PySem.W.Fast.tw8525716762157945737 : True := trivial
theorem PySem.W.Fast.tw11513385422207290653 : True := trivial
theorem PySem.W.Fast.tw18388876251485836659 : True := trivial
theorem PySem.W.Fast.tw8392626615517294836 : True := trivial
theorem PySem.W.Fast.tw118459954980919767 : True := trivial
theorem PySem.W.Fast.tw9586944488191748647 : True := trivial
theorem PySem.W.Fast.tw7544144629041756260 : True := trivial
theorem PySem.W.Fast.tw15976597795747475231 : True := trivial
theorem PySem.W.Fast.tw4775238243211272330 : True := trivial
theorem PySem.W.Fast.tw14936158666210724510 : True := trivial
theorem PySem.W.Fast.tw4946610992686711772 : True := trivial
theorem PySem.W.Fast.tw9667467383859183688 : True := trivial
theorem PySem.W.Fast.tw11629703321363052468 : True := trivial
theorem PySem.W.Fast.tw535116837424450047 : True := trivial
theorem PySem.W.Fast.tw620166804694717337 : True := trivial
theorem PySem.W.Fast.tw11607916816714091386 : True := trivial
theorem PySem.W.Fast.tw7666527071847711558 : True := trivial
theorem PySem.W.Fast.tw9988005280927033423 : True := trivial
theorem PySem.W.Fast.tw11793473620356828522 : True := trivial
theorem PySem.W.Fast.tw13791605706403879486 : True := trivial
theorem PySem.W.Fast.tw6657421849331792701 : True := trivial
theorem PySem.W.Fast.tw3151869237299898554 : True := trivial
theorem PySem.W.Fast.tw11266479867037003925 : True := trivial
theorem PySem.W.Fast.tw1637165268858804534 : True := trivial
theorem PySem.W.Fast.tw12297271463796227548 : True := trivial
theorem PySem.W.Fast.tw14724589370393374909 : True := trivial
theorem PySem.W.Fast.tw3667145653071846142 : True := trivial
theorem PySem.W.Fast.tw15041888104546664199 : True := trivial
theorem PySem.W.Fast.tw7371840854676717907 : True := trivial
theorem PySem.W.Fast.tw14867730309160331042 : True := trivial
theorem PySem.W.Fast.tw7720636609452808609 : True := trivial
theorem PySem.W.Fast.tw16648070181482690625 : True := trivial
theorem PySem.W.Fast.tw10016605427388758187 : True := trivial
theorem PySem.W.Fast.tw2325391835018646687 : True := trivial
theorem PySem.W.Fast.tw7448521591655707987 : True := trivial
theorem PySem.W.Fast.tw323795907272394121 : True := trivial
theorem PySem.W.Fast.tw1834824602623135471 : True := trivial
theorem PySem.W.Fast.tw6294413948977927884 : True := trivial
theorem PySem.W.Fast.tw11942517794716667562 : True := trivial
theorem PySem.W.Fast.tw8507578574200400638 : True := trivial
theorem PySem.W.Fast.tw3843269698313332815 : True := trivial
theorem PySem.W.Fast.tw4589204322181479589 : True := trivial
theorem PySem.W.Fast.tw15603294675015678042 : True := trivial
theorem PySem.W.Fast.tw6227338225760243464 : True := trivial
theorem PySem.W.Fast.tw16944793254336473391 : True := trivial
theorem PySem.W.Fast.tw6536542432432010931 : True := trivial
theorem PySem.W.Fast.tw9985435226230152883 : True := trivial
theorem PySem.W.Fast.tw12074556340592388 : True := trivial
theorem PySem.W.Fast.tw17918828409156656692 : True := trivial
theorem PySem.W.Fast.tw16143482305963825680 : True := trivial
theorem PySem.W.Fast.tw4524422873401119861 : True := trivial
theorem PySem.W.Fast.tw11432625739474727099 : True := trivial
theorem PySem.W.Fast.tw5235855671083275416 : True := trivial
theorem PySem.W.Fast.tw641177465665769139 : True := trivial
theorem PySem.W.Fast.tw2186582454820082116 : True := trivial
theorem PySem.W.Fast.tw2050474661868022233 : True := trivial
theorem PySem.W.Fast.tw3434192861066120172 : True := trivial
theorem PySem.W.Fast.tw14340557186702671181 : True := trivial
theorem PySem.W.Fast.tw16382892890596369631 : True := trivial
theorem PySem.W.Fast.tw8311549402639066679 : True := trivial
theorem PySem.W.Fast.tw6100350642163847453 : True := trivial
theorem PySem.W.Fast.tw14259540363505367959 : True := trivial
theorem PySem.W.Fast.tw8895225769930549542 : True := trivial
theorem PySem.W.Fast.tw5593609680015963358 : True := trivial
theorem PySem.W.Fast.tw16715896714588990543 : True := trivial
theorem PySem.W.Fast.tw13021612953674703290 : True := trivial
theorem PySem.W.Fast.tw15973829472431460231 : True := trivial
theorem PySem.W.Fast.tw10051781452786451101 : True := trivial
theorem PySem.W.Fast.tw1995152279448287785 : True := trivial
theorem PySem.W.Fast.tw2352847220094450209 : True := trivial
theorem PySem.W.Fast.tw7198445995696072109 : True := trivial
theorem PySem.W.Fast.tw12170799541324113904 : True := trivial
theorem PySem.W.Fast.tw4760040125425477460 : True := trivial
theorem PySem.W.Fast.tw6887833382879401085 : True := trivial
theorem PySem.W.Fast.tw12699839497850529118 : True := trivial
theorem PySem.W.Fast.tw15013231158014462173 : True := trivial
theorem PySem.W.Fast.tw4949089265572091941 : True := trivial
theorem PySem.W.Fast.tw10534258475256855002 : True := trivial
theorem PySem.W.Fast.tw5122329223049046833 : True := trivial
theorem PySem.W.Fast.tw2853511148273674931 : True := trivial
theorem PySem.W.Fast.tw12088285722092986587 : True := trivial
theorem PySem.W.Fast.tw814591080056787734 : True := trivial
theorem PySem.W.Fast.tw7183108315331674618 : True := trivial
theorem PySem.W.Fast.tw891527319595573671 : True := trivial
theorem PySem.W.Fast.tw4737795058472399678 : True := trivial
theorem PySem.W.Fast.tw475116316142171849 : True := trivial
theorem PySem.W.Fast.tw10079915928023213212 : True := trivial
theorem PySem.W.Fast.tw15372021571910163842 : True := trivial
theorem PySem.W.Fast.tw8819871820779471449 : True := trivial
theorem PySem.W.Fast.tw3337603351191638143 : True := trivial
theorem PySem.W.Fast.tw9381528125183917744 : True := trivial
theorem PySem.W.Fast.tw5346522356210819853 : True := trivial
theorem PySem.W.Fast.tw5614890711490239178 : True := trivial
theorem PySem.W.Fast.tw18272983210586392499 : True := trivial
theorem PySem.W.Fast.tw3110174075432720530 : True := trivial
theorem PySem.W.Fast.tw11515479420077677980 : True := trivial
theorem PySem.W.Fast.tw15833189795822330800 : True := trivial
theorem PySem.W.Fast.tw15191019520034613196 : True := trivial
theorem PySem.W.Fast.tw13388547842083886055 : True := trivial
theorem PySem.W.Fast.tw12231205053002931258 : True := trivial
theorem PySem.W.Fast.tw6136507557096807385 : True := trivial
theorem PySem.W.Fast.tw11879743897728605250 : True := trivial
theorem PySem.W.Fast.tw14623578500414085121 : True := trivial
theorem PySem.W.Fast.tw6715378116082386713 : True := trivial
theorem PySem.W.Fast.tw3429287092640492437 : True := trivial
theorem PySem.W.Fast.tw7431927797573514822 : True := trivial
theorem PySem.W.Fast.tw9296198655098689686 : True := trivial
theorem PySem.W.Fast.tw10642634899968803364 : True := trivial
theorem PySem.W.Fast.tw16599263642450234867 : True := trivial
theorem PySem.W.Fast.tw12798662290487180908 : True := trivial
theorem PySem.W.Fast.tw16903259015020893175 : True := trivial
theorem PySem.W.Fast.tw13510929252474550372 : True := trivial
theorem PySem.W.Fast.tw6137784939658906254 : True := trivial
theorem PySem.W.Fast.tw13016359840949476329 : True := trivial
theorem PySem.W.Fast.tw8202662369696534228 : True := trivial
theorem PySem.W.Fast.tw7792387865518037473 : True := trivial
theorem PySem.W.Fast.tw1663062268434812563 : True := trivial
theorem PySem.W.Fast.tw8986762791888356816 : True := trivial
theorem PySem.W.Fast.tw3288485242634694729 : True := trivial
theorem PySem.W.Fast.tw6026454834525385638 : True := trivial
theorem PySem.W.Fast.tw13583146370830936248 : True := trivial
theorem PySem.W.Fast.tw16051104947993008766 : True := trivial
theorem PySem.W.Fast.tw7250496606001758278 : True := trivial
theorem PySem.W.Fast.tw6430228309363744208 : True := trivial
theorem PySem.W.Fast.tw11923142939281576495 : True := trivial
theorem PySem.W.Fast.tw16147729803866087270 : True := trivial
theorem PySem.W.Fast.tw5754542570030745898 : True := trivial
theorem PySem.W.Fast.tw9180656775563538057 : True := trivial
theorem PySem.W.Fast.tw18033198471765016973 : True := trivial
theorem PySem.W.Fast.tw5382290973816748180 : True := trivial
theorem PySem.W.Fast.tw10546426758586449354 : True := trivial
theorem PySem.W.Fast.tw9502832867330654254 : True := trivial
theorem PySem.W.Fast.tw6269329089454102207 : True := trivial
theorem PySem.W.Fast.tw12809515370121181943 : True := trivial
theorem PySem.W.Fast.tw2277667309396639275 : True := trivial
theorem PySem.W.Fast.tw6925852651036380121 : True := trivial
theorem PySem.W.Fast.tw4232368262786874411 : True := trivial
theorem PySem.W.Fast.tw4803007861014913621 : True := trivial
theorem PySem.W.Fast.tw16527831631274381172 : True := trivial
theorem PySem.W.Fast.tw2200317464675752332 : True := trivial
theorem PySem.W.Fast.tw4679214393320429361 : True := trivial
theorem PySem.W.Fast.tw15691119714221743207 : True := trivial
theorem PySem.W.Fast.tw7368124082130457631 : True := trivial
theorem PySem.W.Fast.tw3515885169325260050 : True := trivial
theorem PySem.W.Fast.tw11906072618548561428 : True := trivial
theorem PySem.W.Fast.tw17940442069643664756 : True := trivial
theorem PySem.W.Fast.tw1941321983800395636 : True := trivial
theorem PySem.W.Fast.tw7452960938595957011 : True := trivial
theorem PySem.W.Fast.tw14996856251614047990 : True := trivial
theorem PySem.W.Fast.tw14705301524853837489 : True := trivial
theorem PySem.W.Fast.tw14707888827141064633 : True := trivial
theorem PySem.W.Fast.tw14942647877655268270 : True := trivial
theorem PySem.W.Fast.tw12504690617435795136 : True := trivial
theorem PySem.W.Fast.tw9699429389353907779 : True := trivial
theorem PySem.W.Fast.tw14703750766488536396 : True := trivial
theorem PySem.W.Fast.tw18114914227818094720 : True := trivial
theorem PySem.W.Fast.tw15547647180098503201 : True := trivial
theorem PySem.W.Fast.tw14993313856519784258 : True := trivial
theorem PySem.W.Fast.tw16237767673226568817 : True := trivial
theorem PySem.W.Fast.tw7115717322569854033 : True := trivial
theorem PySem.W.Fast.tw16227229088657573319 : True := trivial
theorem PySem.W.Fast.tw11941736677343987484 : True := trivial
theorem PySem.W.Fast.tw528064884821748398 : True := trivial
theorem PySem.W.Fast.tw5503748887742778273 : True := trivial
theorem PySem.W.Fast.tw16893808177830928280 : True := trivial
theorem PySem.W.Fast.tw9943183346928089190 : True := trivial
theorem PySem.W.Fast.tw8370245856951215833 : True := trivial
theorem PySem.W.Fast.tw10882823161845099109 : True := trivial
theorem PySem.W.Fast.tw15490009409152941223 : True := trivial
theorem PySem.W.Fast.tw8682047852862609680 : True := trivial
theorem PySem.W.Fast.tw2985815580426564832 : True := trivial
theorem PySem.W.Fast.tw580014458219415703 : True := trivial
theorem PySem.W.Fast.tw16453821360474939978 : True := trivial
theorem PySem.W.Fast.tw2256631088357255679 : True := trivial
theorem PySem.W.Fast.tw7833685031230577971 : True := trivial
theorem PySem.W.Fast.tw16022045335154928108 : True := trivial
theorem PySem.W.Fast.tw10407886381676261176 : True := trivial
theorem PySem.W.Fast.tw1533372652243718854 : True := trivial
theorem PySem.W.Fast.tw15719275426980873112 : True := trivial
theorem PySem.W.Fast.tw17644554991920137369 : True := trivial
theorem PySem.W.Fast.tw12744399055870208067 : True := trivial
theorem PySem.W.Fast.tw10864785843955342350 : True := trivial
theorem PySem.W.Fast.tw6663950814916497211 : True := trivial
theorem PySem.W.Fast.tw14691395721450542574 : True := trivial
theorem PySem.W.Fast.tw13829547429479426386 : True := trivial
theorem PySem.W.Fast.tw9665979964051287129 : True := trivial
theorem PySem.W.Fast.tw2588922470673506139 : True := trivial
theorem PySem.W.Fast.tw10254702952001131843 : True := trivial
theorem PySem.W.Fast.tw11984648595004783694 : True := trivial
theorem PySem.W.Fast.tw2528090673914068822 : True := trivial
theorem PySem.W.Fast.tw8253479570281827562 : True := trivial
theorem PySem.W.Fast.tw14844058331600478155 : True := trivial
theorem PySem.W.Fast.tw18332537740239141874 : True := trivial
theorem PySem.W.Fast.tw9055949723795386692 : True := trivial
theorem PySem.W.Fast.tw16781616306255086624 : True := trivial
theorem PySem.W.Fast.tw8038840288053401086 : True := trivial
theorem PySem.W.Fast.tw6239078977273637399 : True := trivial
theorem PySem.W.Fast.tw14558553208106709039 : True := trivial
theorem PySem.W.Fast.tw14257869528628918258 : True := trivial
theorem PySem.W.Fast.tw2332231455536538958 : True := trivial
theorem PySem.W.Fast.tw6056164930080023239 : True := trivial
theorem PySem.W.Fast.tw9386590488916046950 : True := trivial
theorem PySem.W.Fast.tw17153701690930577266 : True := trivial
theorem PySem.W.Fast.tw11621201966003776855 : True := trivial
theorem PySem.W.Fast.tw13899766776402111810 : True := trivial
theorem PySem.W.Fast.tw1234459128460125515 : True := trivial
theorem PySem.W.Fast.tw6516890322482282259 : True := trivial
theorem PySem.W.Fast.tw10764230784069633815 : True := trivial
theorem PySem.W.Fast.tw11793643865116983675 : True := trivial
theorem PySem.W.Fast.tw11753509165529983280 : True := trivial
theorem PySem.W.Fast.tw17311441943391523047 : True := trivial
theorem PySem.W.Fast.tw10985546525436836261 : True := trivial
theorem PySem.W.Fast.tw12002717540041903391 : True := trivial
theorem PySem.W.Fast.tw1245174912320418921 : True := trivial
theorem PySem.W.Fast.tw7913971630495228782 : True := trivial
theorem PySem.W.Fast.tw17096860264427638943 : True := trivial
theorem PySem.W.Fast.tw1273241012110983193 : True := trivial
theorem PySem.W.Fast.tw12582458707755040839 : True := trivial
theorem PySem.W.Fast.tw6921363424640337038 : True := trivial
theorem PySem.W.Fast.tw10838787368007906084 : True := trivial
theorem PySem.W.Fast.tw16226943447043051711 : True := trivial
theorem PySem.W.Fast.tw276595068992198436 : True := trivial
theorem PySem.W.Fast.tw9461357349789539638 : True := trivial
theorem PySem.W.Fast.tw1480376271159579127 : True := trivial
theorem PySem.W.Fast.tw14901939277314677416 : True := trivial
theorem PySem.W.Fast.tw9691138228743850945 : True := trivial
theorem PySem.W.Fast.tw18418012692192542658 : True := trivial
theorem PySem.W.Fast.tw12572066046882949230 : True := trivial
theorem PySem.W.Fast.tw6660653070019637995 : True := trivial
theorem PySem.W.Fast.tw3783749196830303249 : True := trivial
theorem PySem.W.Fast.tw2871864693267399208 : True := trivial
theorem PySem.W.Fast.tw6223333491634356047 : True := trivial
theorem PySem.W.Fast.tw7886630648003681268 : True := trivial
theorem PySem.W.Fast.tw17107918245995669998 : True := trivial
theorem PySem.W.Fast.tw13525507232916480416 : True := trivial
theorem PySem.W.Fast.tw12900093405789857977 : True := trivial
theorem PySem.W.Fast.tw15254408306332793797 : True := trivial
theorem PySem.W.Fast.tw18328471978930055015 : True := trivial
theorem PySem.W.Fast.tw16729939756413925544 : True := trivial
theorem PySem.W.Fast.tw16694281339986405739 : True := trivial
theorem PySem.W.Fast.tw5411894302698934588 : True := trivial
theorem PySem.W.Fast.tw12289295194674445610 : True := trivial
theorem PySem.W.Fast.tw14818554319580091141 : True := trivial
theorem PySem.W.Fast.tw198923962468333122 : True := trivial
theorem PySem.W.Fast.tw17019619121521683993 : True := trivial
theorem PySem.W.Fast.tw8330256470842457680 : True := trivial
theorem PySem.W.Fast.tw9086348414293048415 : True := trivial
theorem PySem.W.Fast.tw8546043981634760020 : True := trivial
theorem PySem.W.Fast.tw16145726022040347644 : True := trivial
theorem PySem.W.Fast.tw13313535812953894067 : True := trivial
theorem PySem.W.Fast.tw10850668925445999407 : True := trivial
theorem PySem.W.Fast.tw18103800560312978186 : True := trivial
theorem PySem.W.Fast.tw8641409989950989081 : True := trivial
theorem PySem.W.Fast.tw9964901450534504976 : True := trivial
theorem PySem.W.Fast.tw9140044249164669701 : True := trivial
theorem PySem.W.Fast.tw4538141019637187238 : True := trivial
theorem PySem.W.Fast.tw8303600746547821505 : True := trivial
theorem PySem.W.Fast.tw3420816557920067338 : True := trivial
theorem PySem.W.Fast.tw16155397403031369561 : True := trivial
theorem PySem.W.Fast.tw1251155354436947412 : True := trivial
theorem PySem.W.Fast.tw15162414724410167416 : True := trivial
theorem PySem.W.Fast.tw8407818083982017670 : True := trivial
theorem PySem.W.Fast.tw14403624307570767638 : True := trivial
theorem PySem.W.Fast.tw9117321778912208713 : True := trivial
theorem PySem.W.Fast.tw5004756817912192720 : True := trivial
theorem PySem.W.Fast.tw238019617022075504 : True := trivial
theorem PySem.W.Fast.tw5910424644046552330 : True := trivial
theorem PySem.W.Fast.tw5288909460453102086 : True := trivial
theorem PySem.W.Fast.tw7807893459923545733 : True := trivial
theorem PySem.W.Fast.tw4031728132471086136 : True := trivial
theorem PySem.W.Fast.tw2546257471434100150 : True := trivial
theorem PySem.W.Fast.tw9973870585144360163 : True := trivial
theorem PySem.W.Fast.tw5974085032875700794 : True := trivial
theorem PySem.W.Fast.tw8228033273787937948 : True := trivial
theorem PySem.W.Fast.tw12893873366726946217 : True := trivial
theorem PySem.W.Fast.tw5348332535654737676 : True := trivial
theorem PySem.W.Fast.tw13904778849126640174 : True := trivial
theorem PySem.W.Fast.tw1897775740266418331 : True := trivial
theorem PySem.W.Fast.tw9803593798474732411 : True := trivial
theorem PySem.W.Fast.tw13971239402011779519 : True := trivial
theorem PySem.W.Fast.tw9719305612673806719 : True := trivial
theorem PySem.W.Fast.tw1254960234372757841 : True := trivial
theorem PySem.W.Fast.tw16914431256736747785 : True := trivial
theorem PySem.W.Fast.tw5636168471085976731 : True := trivial
theorem PySem.W.Fast.tw18235613660414884806 : True := trivial
theorem PySem.W.Fast.tw13300958752099154978 : True := trivial
theorem PySem.W.Fast.tw13035547200312161625 : True := trivial
theorem PySem.W.Fast.tw11923458681360805770 : True := trivial
theorem PySem.W.Fast.tw2398464894058616307 : True := trivial
theorem PySem.W.Fast.tw5709988183007012776 : True := trivial
theorem PySem.W.Fast.tw14787895240063509919 : True := trivial
theorem PySem.W.Fast.tw6188890844590155986 : True := trivial
theorem PySem.W.Fast.tw17068735288003682874 : True := trivial
theorem PySem.W.Fast.tw4362553281911275207 : True := trivial
theorem PySem.W.Fast.tw86369173303583004 : True := trivial
theorem PySem.W.Fast.tw14067656092230646031 : True := trivial
theorem PySem.W.Fast.tw1634324624627046100 : True := trivial
theorem PySem.W.Fast.tw17143781739680899629 : True := trivial
theorem PySem.W.Fast.tw3845730507740547435 : True := trivial
theorem PySem.W.Fast.tw4908180228039459079 : True := trivial
theorem PySem.W.Fast.tw992800357582523342 : True := trivial
theorem PySem.W.Fast.tw14001748823841493561 : True := trivial
theorem PySem.W.Fast.tw17334558551563433470 : True := trivial
theorem PySem.W.Fast.tw42984152437373876 : True := trivial
theorem PySem.W.Fast.tw4947186114037383453 : True := trivial
theorem PySem.W.Fast.tw10153526653873524706 : True := trivial
theorem PySem.W.Fast.tw16622103614570923830 : True := trivial
theorem PySem.W.Fast.tw12343068779393701444 : True := trivial
theorem PySem.W.Fast.tw7820768356887063853 : True := trivial
theorem PySem.W.Fast.tw11474002140979534389 : True := trivial
theorem PySem.W.Fast.tw13708011526243821672 : True := trivial
theorem PySem.W.Fast.tw7937903316537794778 : True := trivial
theorem PySem.W.Fast.tw10702797934285728882 : True := trivial
theorem PySem.W.Fast.tw10853175030346223020 : True := trivial
theorem PySem.W.Fast.tw17673818963258468381 : True := trivial
theorem PySem.W.Fast.tw2774250524035481400 : True := trivial
theorem PySem.W.Fast.tw7508735612356467256 : True := trivial
theorem PySem.W.Fast.tw8147050558752715122 : True := trivial
theorem PySem.W.Fast.tw6151783017588318925 : True := trivial
open PySem PySem.W PyProof.Rows
set_option maxRecDepth 100000 in
set_option maxHeartbeats 0 in
theorem PySem.Challenge.cw_fallrow_k08_refused_holds : PySem.Challenge.rw_fallrow_k08_refused.Holds := by
  w_on; o_law; k_head; (case hw => w_witness2)
  k_fill
  refine Fk.walk (l := PySem.Challenge.rw_fallrow_k08_refused) rfl rfl (fun w h Y => PySem.W.kIn_of Y) ?F
  case F =>
    intro w mg fa h KX G hmg
    refine' Fk.all_mk KX G hmg ?ugF ?ugR ?ugS ?ugD ?ugT ?uv ?a1 ?l1 ?c1 ?k1 ?a2 ?l2 ?c2 ?k2 ?a3 ?l3 ?c3 ?k3 ?a4 ?l4 ?c4 ?k4 ?a5 ?l5 ?c5 ?k5 ?a6 ?l6 ?c6 ?k6 ?a7 ?l7 ?c7 ?k7 ?a8 ?l8 ?c8 ?k8 ?a9 ?l9 ?c9 ?k9 ?a10 ?l10 ?c10 ?k10 ?a11 ?l11 ?c11 ?k11 ?a12 ?l12 ?c12 ?k12 ?a13 ?l13 ?c13 ?k13 ?a14 ?l14 ?c14 ?k14 ?a15 ?l15 ?c15 ?k15 ?a16 ?l16 ?c16 ?k16 ?a17 ?l17 ?c17 ?k17 ?a18 ?l18 ?c18 ?k18 ?a19 ?l19 ?c19 ?k19 ?a20 ?l20 ?c20 ?k20 ?a21 ?l21 ?c21 ?k21 ?a22 ?l22 ?c22 ?k22 ?a23 ?l23 ?c23 ?k23 ?a24 ?l24 ?c24 ?k24 ?e0 ?e1 ?z0 ?z1 ?z2 ?z3 ?z4 ?z5 ?z6 ?z7 ?z8 ?z9 ?z10 ?z11 ?z12 ?z13 ?z14 ?z15 ?z16 ?z17 ?z18 ?x1R ?x2R ?x6R ?x7R ?x3R ?x4R ?x5R ?x1S ?x2S ?x6S ?x7S ?x3S ?x4S ?x5S ?x1D ?x2D ?x6D ?x7D ?x3D ?x4D ?x5D ?xg ?xt ?xb ?qF ?tF ?qR ?tR ?qS ?tS ?qD ?tD ?qT ?tT ?rRF ?rRR ?rRS ?rRD ?rRT ?rSF ?rSR ?rSS ?rSD ?rST ?rDF ?rDR ?rDS ?rDD ?rDT
    (case ugF => k_is)
    (case ugR => k_is)
    (case ugS => k_is)
    (case ugD => k_is)
    (case ugT => k_is)
    (case uv => k_is)
    (case a1 => k_is)
    (case l1 => k_is)
    (case c1 => k_is)
    (case k1 => k_is)
    (case a2 => k_is)
    (case l2 => k_is)
    (case c2 => k_is)
    (case k2 => k_is)
    (case a3 => k_is)
    (case l3 => k_is)
    (case c3 => k_is)
    (case k3 => k_is)
    (case a4 => k_is)
    (case l4 => k_is)
    (case c4 => k_is)
    (case k4 => k_is)
    (case a5 => k_is)
    (case l5 => k_is)
    (case c5 => k_is)
    (case k5 => k_is)
    (case a6 => k_is)
    (case l6 => k_is)
    (case c6 => k_is)
    (case k6 => k_is)
    (case a7 => k_is)
    (case l7 => k_is)
    (case c7 => k_is)
    (case k7 => k_is)
    (case a8 => k_is)
    (case l8 => k_is)
    (case c8 => k_is)
    (case k8 => k_is)
    (case a9 => k_is)
    (case l9 => k_is)
    (case c9 => k_is)
    (case k9 => k_is)
    (case a10 => k_is)
    (case l10 => k_is)
    (case c10 => k_is)
    (case k10 => k_is)
    (case a11 => k_is)
    (case l11 => k_is)
    (case c11 => k_is)
    (case k11 => k_is)
    (case a12 => k_is)
    (case l12 => k_is)
    (case c12 => k_is)
    (case k12 => k_is)
    (case a13 => k_is)
    (case l13 => k_is)
    (case c13 => k_is)
    (case k13 => k_is)
    (case a14 => k_is)
    (case l14 => k_is)
    (case c14 => k_is)
    (case k14 => k_is)
    (case a15 => k_is)
    (case l15 => k_is)
    (case c15 => k_is)
    (case k15 => k_is)
    (case a16 => k_is)
    (case l16 => k_is)
    (case c16 => k_is)
    (case k16 => k_is)
    (case a17 => k_is)
    (case l17 => k_is)
    (case c17 => k_is)
    (case k17 => k_is)
    (case a18 => k_is)
    (case l18 => k_is)
    (case c18 => k_is)
    (case k18 => k_is)
    (case a19 => k_is)
    (case l19 => k_is)
    (case c19 => k_is)
    (case k19 => k_is)
    (case a20 => k_is)
    (case l20 => k_is)
    (case c20 => k_is)
    (case k20 => k_is)
    (case a21 => k_is)
    (case l21 => k_is)
    (case c21 => k_is)
    (case k21 => k_is)
    (case a22 => k_is)
    (case l22 => k_is)
    (case c22 => k_is)
    (case k22 => k_is)
    (case a23 => k_is)
    (case l23 => k_is)
    (case c23 => k_is)
    (case k23 => k_is)
    (case a24 => k_is)
    (case l24 => k_is)
    (case c24 => k_is)
    (case k24 => k_is)
    (case e0 => k_is)
    (case e1 => k_is)
    (case z0 => k_is)
    (case z1 => k_is)
    (case z2 => k_is)
    (case z3 => k_is)
    (case z4 => k_is)
    (case z5 => k_is)
    (case z6 => k_is)
    (case z7 => k_is)
    (case z8 => k_is)
    (case z9 => k_is)
    (case z10 => k_is)
    (case z11 => k_is)
    (case z12 => k_is)
    (case z13 => k_is)
    (case z14 => k_is)
    (case z15 => k_is)
    (case z16 => k_is)
    (case z17 => k_is)
    (case z18 => k_is)
    (case x1R => k_exc)
    (case x2R => k_is)
    (case x6R => k_is)
    (case x7R => k_is)
    (case x3R => k_is)
    (case x4R => k_is)
    (case x5R => k_is)
    (case x1S => k_exc)
    (case x2S => k_is)
    (case x6S => k_is)
    (case x7S => k_is)
    (case x3S => k_is)
    (case x4S => k_is)
    (case x5S => k_is)
    (case x1D => k_exc)
    (case x2D => k_is)
    (case x6D => k_is)
    (case x7D => k_is)
    (case x3D => k_is)
    (case x4D => k_is)
    (case x5D => k_is)
    (case xg => k_is)
    (case xt => k_is)
    (case xb => k_is)
    (case qF => k_is)
    (case tF => k_is)
    (case qR => k_is)
    (case tR => k_is)
    (case qS => k_is)
    (case tS => k_is)
    (case qD => k_is)
    (case tD => k_is)
    (case qT => k_is)
    (case tT => k_is)
    (case rRF => k_is)
    (case rRR => k_is)
    (case rRS => k_is)
    (case rRD => k_is)
    (case rRT => k_is)
    (case rSF => k_is)
    (case rSR => k_is)
    (case rSS => k_is)
    (case rSD => k_is)
    (case rST => k_is)
    (case rDF => k_is)
    (case rDR => k_is)
    (case rDS => k_is)
    (case rDD => k_is)
    (case rDT => k_is)
#print axioms PySem.Challenge.cw_fallrow_k08_refused_holds

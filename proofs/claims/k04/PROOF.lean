import PyProof.Rows.All
import Wide.All
import OpenK.AllK
import Wide.FinOn
import Lean
import PyProof.EqAt
import PyProof.EqKinds
import PyProof.TupleCall
import PyProof.NeKinds
import KE.KRevIter
import PyProof.SetKind
import PyProof.DictStraight
import PyProof.FactsAll.set_1
import PyProof.CollectWalk
import PyProof.WalksMore
import PyProof.Rows.SetFrom
import PyProof.Rows.SortShell
import PyProof.ListRange
import PyProof.Rows.SortWalk
import PyProof.FactsAll.set_2
import KE.KRevSl
import KE.KDictSum
import PyProof.ZipIter
import PyProof.Rows.FactsT2
import PyProof.EnumMake
import PyProof.EnumFor
import PyProof.SetRoads
import PySem.Challenge.RW_fallrow_k04_whole_rights
set_option Elab.async false
set_option linter.all false
set_option maxRecDepth 100000
set_option maxHeartbeats 4000000
set_option genSizeOf false
set_option genInjectivity false
namespace L2
open PySem PySem.Spec PyProof.Rows

noncomputable abbrev Key := Sum Int Str
noncomputable def keyIs : Key → Value → Bool
  | .inl k, v => Value.isInt k v
  | .inr x, v => Value.isStrOf x v
noncomputable def keyH (w : World) : Key → Int
  | .inl k => hashInt k
  | .inr x => hashStr w x
theorem keyIs_shape : ∀ {k : Key} {v : Value}, keyIs k v = true → (∃ i t, k = Sum.inl i ∧ v = Value.int i t) ∨ (∃ x t, k = Sum.inr x ∧ v = Value.str x t)
  | .inl i, v, h => by
    obtain ⟨t, e⟩ := Value.isInt_shape (k := i) (v := v) h
    exact .inl ⟨i, t, rfl, e⟩
  | .inr x, v, h => by
    obtain ⟨t, e⟩ := Value.isStrOf_shape (x := x) (v := v) h
    exact .inr ⟨x, t, rfl, e⟩
theorem key_ll (a b : Int) : decide ((Sum.inl a : Key) = Sum.inl b) = (a == b) := by
  by_cases e : a = b
  · subst e; simp
  · have h : ¬ (Sum.inl a : Key) = Sum.inl b := fun q => e (Sum.inl.inj q)
    rw [decide_eq_false h]
    exact (beq_eq_false_iff_ne.mpr e).symm
theorem key_rr (a b : Str) : decide ((Sum.inr a : Key) = Sum.inr b) = decide (a = b) := by
  by_cases e : a = b
  · subst e; simp
  · have h : ¬ (Sum.inr a : Key) = Sum.inr b := fun q => e (Sum.inr.inj q)
    rw [decide_eq_false h, decide_eq_false e]
theorem key_lr (a : Int) (b : Str) : decide ((Sum.inl a : Key) = Sum.inr b) = false := decide_eq_false (fun q => nomatch q)
theorem key_rl (a : Str) (b : Int) : decide ((Sum.inr a : Key) = Sum.inl b) = false := decide_eq_false (fun q => nomatch q)

noncomputable def mixKind (prog : Program) (w : World) : PySem.KeyKind prog w Key where
  is := keyIs
  hash := keyH w
  inj := fun v a b ha hb => by
    rcases keyIs_shape ha with ⟨i, t, rfl, rfl⟩ | ⟨x, t, rfl, rfl⟩
    · rcases keyIs_shape hb with ⟨j, u, rfl, e⟩ | ⟨y, u, rfl, e⟩
      · injection e with e1 _; rw [e1]
      · exact nomatch e
    · rcases keyIs_shape hb with ⟨j, u, rfl, e⟩ | ⟨y, u, rfl, e⟩
      · exact nomatch e
      · injection e with e1 _; rw [e1]
  byValue := fun k v h => by
    rcases keyIs_shape h with ⟨i, t, rfl, rfl⟩ | ⟨x, t, rfl, rfl⟩ <;> rfl
  pyHash := fun hv h => by
    rcases keyIs_shape hv with ⟨i, t, rfl, rfl⟩ | ⟨x, t, rfl, rfl⟩
    · exact wpAny_pyHash_int h
    · exact wpAny_pyHash_str h
  eqBool := fun hu hv h => by
    rcases keyIs_shape hu with ⟨i, t, rfl, rfl⟩ | ⟨x, t, rfl, rfl⟩
    · rcases keyIs_shape hv with ⟨j, u, rfl, rfl⟩ | ⟨y, u, rfl, rfl⟩
      · rw [key_ll] at h; exact wpAny_eqBool_int h
      · rw [key_lr] at h; exact SeqAt.EqAt.int_str i t y u _ _ _ _ h
    · rcases keyIs_shape hv with ⟨j, u, rfl, rfl⟩ | ⟨y, u, rfl, rfl⟩
      · rw [key_rl] at h; exact SeqAt.EqAt.str_int x t j u _ _ _ _ h
      · rw [key_rr] at h; exact wpAny_eqBool_str h
  «strs» := fun k x t v h => by
    rcases keyIs_shape h with ⟨i, u, rfl, e⟩ | ⟨y, u, rfl, e⟩
    · exact nomatch e
    · injection e with e1 _
      subst e1
      cases v <;> rfl

end L2

namespace L2
open PySem PySem.Spec PyProof.Rows

set_option genInjectivity true in
inductive V where
  | non | bl (b : Bool) | int (i : Int) | str (x : Str) | byt (b : Array UInt8) | flt (b : UInt64) | ref (a : Addr) | ty (n : String)
  deriving DecidableEq

noncomputable def RelV : V → Value → Prop
  | .non, u => u = Value.none
  | .bl b, u => u = Value.bool b
  | .int i, u => ∃ t, u = Value.int i t
  | .str x, u => ∃ t, u = Value.str x t
  | .byt b, u => ∃ t, u = Value.bytes b t
  | .flt b, u => ∃ t, u = Value.float b t
  | .ref a, u => u = Value.ref a
  | .ty n, u => u = Value.type n

noncomputable abbrev Vals : List V → List Value → Prop := Paired RelV
theorem Vals.length {xs : List V} {us : List Value} (r : Vals xs us) : xs.length = us.length := Paired.length r
theorem Vals.get : ∀ {xs : List V} {us : List Value} {i : Nat} {x : V}, Vals xs us → xs[i]? = some x → ∃ u, us[i]? = some u ∧ RelV x u
  | _, _, _, _, .nil, e => by simp at e
  | _, _, 0, _, .cons r _, e => by simp at e; subst e; exact ⟨_, rfl, r⟩
  | _, _, i + 1, x, .cons _ t, e => by
    obtain ⟨u, h1, h2⟩ := Vals.get (i := i) (x := x) t (by simpa using e)
    exact ⟨u, by simpa using h1, h2⟩
theorem Vals.set {x : V} {u : Value} (r : RelV x u) : ∀ {xs : List V} {us : List Value} (i : Nat), Vals xs us → Vals (xs.set i x) (us.set i u)
  | _, _, _, .nil => .nil
  | _, _, 0, .cons _ t => .cons r t
  | _, _, i + 1, .cons q t => .cons q (Vals.set r i t)
theorem Vals.append : ∀ {xs ys : List V} {us ws : List Value}, Vals xs us → Vals ys ws → Vals (xs ++ ys) (us ++ ws)
  | _, _, _, _, .nil, s => s
  | _, _, _, _, .cons r t, s => .cons r (Vals.append t s)
theorem Vals.take : ∀ {xs : List V} {us : List Value} (n : Nat), Vals xs us → Vals (xs.take n) (us.take n)
  | _, _, 0, _ => .nil
  | _, _, _ + 1, .nil => .nil
  | _, _, n + 1, .cons r t => .cons r (Vals.take n t)
theorem Vals.drop : ∀ {xs : List V} {us : List Value} (n : Nat), Vals xs us → Vals (xs.drop n) (us.drop n)
  | _, _, 0, r => r
  | _, _, _ + 1, .nil => .nil
  | _, _, n + 1, .cons _ t => Vals.drop n t
theorem Vals.none_of : ∀ {xs : List V} {us : List Value} {i : Nat}, Vals xs us → xs[i]? = none → us[i]? = none := fun {xs us i} r e => by
  have h1 := r.length
  have h2 : xs.length ≤ i := List.getElem?_eq_none_iff.mp e
  exact List.getElem?_eq_none_iff.mpr (by omega)

noncomputable def RelO : Option V → Option Value → Prop
  | some v, some u => RelV v u
  | none, none => True
  | _, _ => False
noncomputable def KV {κ : Type} : List (κ × V) → List (κ × Value) → Prop := Paired fun (p : κ × V) (q : κ × Value) => p.1 = q.1 ∧ RelV p.2 q.2

noncomputable def kV : Key → V
  | .inl i => .int i
  | .inr x => .str x

inductive HO where
  | lst (xs : List V)
  | tup (xs : List V)
  | dK (kvs : List (Key × V)) | dT (kvs : List (List Key × V))
  | set (S : Int → Bool) (n : Nat)
  | ins (C dx : Addr) (fs : List (Str × V))
  | own (x : Addr)
  | xd (fs : List (Str × V))
  | met (f x : Addr)
  | rng (lo hi : Int)
  | frz (o : Obj) (u : HO)
  | tbl (ps : Array Value)
  | ext (φ : Heap → Prop)

noncomputable abbrev Hp := Addr → Option HO
noncomputable def upd (H : Hp) (a : Addr) (o : HO) : Hp := fun b => if b = a then some o else H b
theorem upd_same {H : Hp} {a : Addr} {o : HO} : upd H a o a = some o := by unfold upd; rw [if_pos rfl]
theorem upd_ne {H : Hp} {a b : Addr} {o : HO} (h : b ≠ a) : upd H a o b = H b := by unfold upd; rw [if_neg h]
theorem ne_of_none {H : Hp} {a b : Addr} {o : HO} (h : H a = some o) (h' : H b = none) : a ≠ b := by
  intro e; subst e; rw [h] at h'; cases h'

section
variable (P : Program) (w : World)
noncomputable def ObjOk (H : Hp) (h : Heap) (a : Addr) : HO → Prop
  | .lst xs => xs.length ≤ sizeLine ∧ ∃ (its : List Value) (n : Nat), Vals xs its ∧ h.get? a = some { cls := .type "list", data := .seq its.toArray n }
  | .tup xs => xs.length ≤ sizeLine ∧ ∃ its : List Value, Vals xs its ∧ IsTup h a its.toArray
  | .dK kvs => kvs.length ≤ sizeLine ∧ (a == sysModules) = false ∧ ∃ vs, KV kvs vs ∧ h.DictOf (mixKind P w) a vs
  | .dT kvs => kvs.length ≤ sizeLine ∧ (a == sysModules) = false ∧ ∃ xs : List (List Key × Addr × Value),
      Paired (fun (p : List Key × V) (q : List Key × Addr × Value) => p.1 = q.1 ∧ H q.2.1 = some (.tup (p.1.map kV)) ∧ RelV p.2 q.2.2) kvs xs ∧
      ∃ o es ep, h.get? a = some o ∧ o.ExactDict ∧ o.data = .dict es ep ∧ es.toList = xs.map (entryOfKey (tupleKind (mixKind P w))) ∧ (xs.map (·.1)).Nodup
  | .set S n => h.SetOf (intKind P w) a S n
  | .ins C dx fs => H dx = some (.own a) ∧ fs.length ≤ 1000 ∧ dx ≠ a ∧ h.get? a = some (PySem.W.instObj C dx) ∧
      ∃ mA, h.Ns1 dx mA ∧ (∀ f, RelO (fs.lookup f) (mA f)) ∧ PySem.Within mA (fs.map (·.1))
  | .own _ => ∃ o, h.get? a = some o
  | .xd fs => ∃ mA, h.Ns1 a mA ∧ ∀ f, RelO (fs.lookup f) (mA f)
  | .rng lo hi => ∃ t u v, h.get? a = some { cls := .type "range", data := .fields #[.int lo t, .int hi u, .int 1 v] }
  | .frz o u => h.get? a = some o ∧ ObjOk H h a u
  | .tbl ps => h.get? a = some { cls := .none, data := .fields ps }
  | .met f x => h.get? a = some (PySem.W.methodObj (.ref f) (.ref x))
  | .ext φ => φ h ∧ (∃ o, h.get? a = some o) ∧ ∀ h1 h2 : Heap, φ h1 → (∀ o, h1.get? a = some o → h2.get? a = some o) → φ h2
noncomputable def HOk (H : Hp) (h : Heap) : Prop := ∀ a o, H a = some o → ObjOk P w H h a o
end

section
variable {P : Program} {w : World} {H H' : Hp} {h h' : Heap} {a : Addr} {o : HO}
theorem ObjOk.lt (x : ObjOk P w H h a o) : a < h.objs.size := by
  cases o with
  | lst xs => obtain ⟨_, _, _, _, e⟩ := x; exact Heap.lt_size e
  | tup xs => obtain ⟨_, _, _, p⟩ := x; exact p.lt
  | dK kvs => obtain ⟨_, _, _, _, o, _, _, e, _⟩ := x; exact Heap.lt_size e
  | dT kvs => obtain ⟨_, _, _, _, o, _, _, e, _⟩ := x; exact Heap.lt_size e
  | set S n => obtain ⟨o, _, _, _, e, _⟩ := x; exact Heap.lt_size e
  | ins C dx fs => obtain ⟨_, _, _, e, _⟩ := x; exact Heap.lt_size e
  | own y => obtain ⟨_, e⟩ := x; exact Heap.lt_size e
  | xd fs => obtain ⟨_, ⟨_, _, _, e, _⟩, _⟩ := x; exact Heap.lt_size e
  | rng lo hi => obtain ⟨_, _, _, e⟩ := x; exact Heap.lt_size e
  | frz ob u => obtain ⟨e, _⟩ := x; exact Heap.lt_size e
  | tbl ps => exact Heap.lt_size (show h.get? a = some _ from x)
  | met f y => exact Heap.lt_size (show h.get? a = some _ from x)
  | ext φ => obtain ⟨_, ⟨_, e⟩, _⟩ := x; exact Heap.lt_size e
theorem Paired.mapP {α β : Type} {F G : α → β → Prop} : ∀ {l₁ : List α} {l₂ : List β}, Paired F l₁ l₂ → (∀ a b, F a b → G a b) → Paired G l₁ l₂
  | _, _, .nil, _ => .nil
  | _, _, .cons r t, f => .cons (f _ _ r) (Paired.mapP t f)
theorem ObjOk.stay (x : ObjOk P w H h a o) (k : ∀ b u, (b = a ∨ H b = some (.own a)) → h.get? b = some u → h'.get? b = some u)
    (ho : ∀ b, H b = some (.own a) → H' b = some (.own a)) (ht : ∀ b xs, H b = some (.tup xs) → H' b = some (.tup xs)) : ObjOk P w H' h' a o := by
  induction o with
  | lst xs => obtain ⟨z, its, n, r, e⟩ := x; exact ⟨z, its, n, r, k _ _ (.inl rfl) e⟩
  | tup xs => obtain ⟨z, its, r, ob, e, c⟩ := x; exact ⟨z, its, r, ob, k _ _ (.inl rfl) e, c⟩
  | dK kvs => obtain ⟨z, y, vs, r, ob, es, ep, e, c⟩ := x; exact ⟨z, y, vs, r, ob, es, ep, k _ _ (.inl rfl) e, c⟩
  | dT kvs =>
    obtain ⟨z, y, xs, r, ob, es, ep, e, c⟩ := x
    exact ⟨z, y, xs, Paired.mapP r fun p q z => ⟨z.1, ht _ _ z.2.1, z.2.2⟩, ob, es, ep, k _ _ (.inl rfl) e, c⟩
  | set S n => obtain ⟨ob, es, ep, t, e, c⟩ := x; exact ⟨ob, es, ep, t, k _ _ (.inl rfl) e, c⟩
  | ins C dx fs =>
    obtain ⟨d, z, ne, e, mA, ⟨od, es, ep, e2, c⟩, r⟩ := x
    exact ⟨ho _ d, z, ne, k _ _ (.inl rfl) e, mA, ⟨od, es, ep, k _ _ (.inr d) e2, c⟩, r⟩
  | own y => obtain ⟨ob, e⟩ := x; exact ⟨ob, k _ _ (.inl rfl) e⟩
  | xd fs => obtain ⟨mA, ⟨od, es, ep, e, c⟩, r⟩ := x; exact ⟨mA, ⟨od, es, ep, k _ _ (.inl rfl) e, c⟩, r⟩
  | rng lo hi => obtain ⟨t, u, v, e⟩ := x; exact ⟨t, u, v, k _ _ (.inl rfl) e⟩
  | frz ob u ih => obtain ⟨e, q⟩ := x; exact ⟨k _ _ (.inl rfl) e, ih q⟩
  | tbl ps =>
    have e : h.get? a = some { cls := .none, data := .fields ps } := x
    show h'.get? a = some { cls := .none, data := .fields ps }
    exact k a _ (.inl rfl) e
  | met f y =>
    have e : h.get? a = some (PySem.W.methodObj (.ref f) (.ref y)) := x
    show h'.get? a = some (PySem.W.methodObj (.ref f) (.ref y))
    exact k a _ (.inl rfl) e
  | ext φ => obtain ⟨p, ⟨o, e⟩, st⟩ := x; exact ⟨st _ _ p fun o q => k _ _ (.inl rfl) q, ⟨o, k _ _ (.inl rfl) e⟩, st⟩
theorem HOk.lt (x : HOk P w H h) (e : H a = some o) : a < h.objs.size := (x a o e).lt
theorem HOk.fresh (x : HOk P w H h) (e : h.objs.size ≤ a) : H a = none := by
  cases q : H a with
  | none => rfl
  | some u => exact absurd (Nat.lt_of_lt_of_le (x.lt q) e) (Nat.lt_irrefl _)
theorem HOk.kept (x : HOk P w H h) (k : ∀ b u, h.get? b = some u → h'.get? b = some u) : HOk P w H h' := fun a o e =>
  (x a o e).stay (fun b u _ q => k b u q) (fun _ q => q) fun _ _ q => q
theorem HOk.laid (x : HOk P w H h) (k : ∀ b u, h.get? b = some u → h'.get? b = some u) (hp : h.objs.size ≤ a) (new : ObjOk P w (upd H a o) h' a o) : HOk P w (upd H a o) h' := fun b u e => by
  have hn := x.fresh hp
  by_cases hb : b = a
  · subst hb; rw [upd_same] at e; cases e; exact new
  · rw [upd_ne hb] at e
    exact (x b u e).stay (fun c v _ q => k c v q) (fun c q => by rw [upd_ne (ne_of_none q hn)]; exact q) fun c xs q => by rw [upd_ne (ne_of_none q hn)]; exact q
end

noncomputable def Rd (H : Hp) (a : Addr) (u : HO) : Prop := H a = some u ∨ ∃ o, H a = some (.frz o u)
theorem Rd.of {H : Hp} {a : Addr} {u : HO} (h : H a = some u) : Rd H a u := .inl h
theorem Rd.ok {P : Program} {w : World} {H : Hp} {h : Heap} {a : Addr} {u : HO} (r : Rd H a u) (x : HOk P w H h) : ObjOk P w H h a u := by
  rcases r with r | ⟨o, r⟩
  · exact x a u r
  · obtain ⟨_, q⟩ := x a _ r
    exact q
noncomputable def Mut : Option HO → Prop
  | some (.lst _) => True
  | some (.dK _) => True
  | some (.dT _) => True
  | some (.set _ _) => True
  | some (.ins _ _ _) => True
  | some (.ext _) => True
  | _ => False
section
variable {P : Program} {w : World} {H : Hp} {h h' : Heap} {x e : Addr} {o' : HO}
theorem HOk.write (ok : HOk P w H h) (mu : Mut (H x)) (he : e = x ∨ H e = some (.own x)) (k : ∀ b u, b ≠ e → h.get? b = some u → h'.get? b = some u) (heo : ∃ u, h'.get? e = some u)
    (new : ObjOk P w (upd H x o') h' x o') : HOk P w (upd H x o') h' := fun b u q => by
  have nown : ∀ c y, H c = some (.own y) → c ≠ x := fun c y r z => by subst z; rw [r] at mu; exact mu
  have ntup : ∀ c xs, H c = some (.tup xs) → c ≠ x := fun c xs r z => by subst z; rw [r] at mu; exact mu
  by_cases hb : b = x
  · subst hb; rw [upd_same] at q; cases q; exact new
  · rw [upd_ne hb] at q
    by_cases hbe : b = e
    · have q' : H b = some (.own x) := by
        rcases he with z | z
        · exact absurd (hbe.trans z) hb
        · rw [hbe]; exact z
      rw [q] at q'; cases q'
      obtain ⟨v, hv⟩ := heo
      exact ⟨v, by rw [hbe]; exact hv⟩
    · refine (ok b u q).stay (fun c v hc r => k c v ?_ r) (fun c r => by rw [upd_ne (nown c b r)]; exact r) fun c xs r => by rw [upd_ne (ntup c xs r)]; exact r
      rcases hc with rfl | hc
      · exact hbe
      · rintro rfl
        rcases he with z | z
        · exact nown c b hc z
        · rw [hc] at z; cases z; exact hb rfl
end

structure Un (fs ex : List Addr) (H H' : Hp) (h h' : Heap) : Prop where
  keep : ∀ b o, h.get? b = some o → H b = none → b ∉ fs → b ∉ ex → h'.get? b = some o
  slot : ∀ b o, h.get? b = some o → H b = none → b ∈ fs → b ∉ ex → ∃ sl, h'.get? b = some { o with slots := sl }
  free : ∀ b o, h.get? b = some o → H b = none → b ∉ ex → H' b = none
  there : ∀ b o, h.get? b = some o → b ∉ ex → ∃ o', h'.get? b = some o'
  tups : ∀ b xs, H b = some (.tup xs) → H' b = some (.tup xs)
  frzs : ∀ b o u, H b = some (.frz o u) → H' b = some (.frz o u)
  tbls : ∀ b ps, H b = some (.tbl ps) → ∃ more, H' b = some (.tbl (ps ++ more))
section
variable {fs fs' ex ex' : List Addr} {H H1 H2 : Hp} {h h1 h2 h' : Heap} {a x e : Addr} {o : HO}
theorem Un.any (u : Un fs ex H H1 h h1) {b : Addr} {ob : Obj} (q : h.get? b = some ob) (n : H b = none) (hx : b ∉ ex) : ∃ sl, h1.get? b = some { ob with slots := sl } := by
  by_cases hb : b ∈ fs
  · exact u.slot b ob q n hb hx
  · exact ⟨ob.slots, u.keep b ob q n hb hx⟩
theorem Un.trans (a : Un fs ex H H1 h h1) (b : Un fs ex H1 H2 h1 h2) : Un fs ex H H2 h h2 where
  keep := fun c ob q n hc hx => b.keep c ob (a.keep c ob q n hc hx) (a.free c ob q n hx) hc hx
  slot := fun c ob q n hc hx => by
    obtain ⟨sl, e1⟩ := a.slot c ob q n hc hx
    obtain ⟨sl', e2⟩ := b.slot c _ e1 (a.free c ob q n hx) hc hx
    exact ⟨sl', e2⟩
  free := fun c ob q n hx => by
    obtain ⟨o', e1⟩ := a.there c ob q hx
    exact b.free c o' e1 (a.free c ob q n hx) hx
  there := fun c ob q hx => by
    obtain ⟨o', e1⟩ := a.there c ob q hx
    exact b.there c o' e1 hx
  tups := fun c xs q => b.tups c xs (a.tups c xs q)
  frzs := fun c ob xs q => b.frzs c ob xs (a.frzs c ob xs q)
  tbls := fun c ps q => by
    obtain ⟨m1, e1⟩ := a.tbls c ps q
    obtain ⟨m2, e2⟩ := b.tbls c _ e1
    exact ⟨m1 ++ m2, by rw [e2, Array.append_assoc]⟩
theorem Un.kept (k : ∀ b u, h.get? b = some u → h'.get? b = some u) : Un fs ex H H h h' :=
  ⟨fun b ob q _ _ _ => k b ob q, fun b ob q _ _ _ => ⟨ob.slots, k b ob q⟩, fun _ _ _ n _ => n, fun b ob q _ => ⟨ob, k b ob q⟩, fun _ _ q => q, fun _ _ _ q => q, fun _ ps q => ⟨#[], by rw [q]; simp⟩⟩
theorem Un.refl : Un fs ex H H h h := Un.kept fun _ _ q => q
theorem Un.laid (k : ∀ b u, h.get? b = some u → h'.get? b = some u) (hp : h.objs.size ≤ a) (hn : H a = none) : Un fs ex H (upd H a o) h h' where
  keep := fun b u q _ _ _ => k b u q
  slot := fun b u q _ _ _ => ⟨u.slots, k b u q⟩
  free := fun b u q n _ => by rw [upd_ne (Nat.ne_of_lt (Nat.lt_of_lt_of_le (Heap.lt_size q) hp))]; exact n
  there := fun b u q _ => ⟨u, k b u q⟩
  tups := fun b xs q => by rw [upd_ne (ne_of_none q hn)]; exact q
  frzs := fun b u xs q => by rw [upd_ne (ne_of_none q hn)]; exact q
  tbls := fun b ps q => ⟨#[], by rw [upd_ne (ne_of_none q hn), q]; simp⟩
theorem Un.write (mu : Mut (H x)) (he : e = x ∨ H e = some (.own x)) (k : ∀ b u, b ≠ e → h.get? b = some u → h'.get? b = some u) (heo : ∃ u, h'.get? e = some u) : Un fs ex H (upd H x o) h h' := by
  have hx : ∀ b, H b = none → b ≠ x := fun b n z => by subst z; rw [n] at mu; exact mu
  have hb : ∀ b, H b = none → b ≠ e := fun b n z => by
    subst z
    rcases he with r | r
    · exact hx b n r
    · rw [n] at r; cases r
  have hm : ∀ b u, H b = some u → ¬ Mut (some u) → b ≠ x := fun b u q nm z => by subst z; rw [q] at mu; exact nm mu
  refine ⟨fun b u q n _ _ => k b u (hb b n) q, fun b u q n _ _ => ⟨u.slots, k b u (hb b n) q⟩, fun b u q n _ => by rw [upd_ne (hx b n)]; exact n, fun b u q _ => ?_,
    fun b xs q => by rw [upd_ne (hm b _ q fun z => z)]; exact q, fun b u xs q => by rw [upd_ne (hm b _ q fun z => z)]; exact q, fun b ps q => ⟨#[], by rw [upd_ne (hm b _ q fun z => z), q]; simp⟩⟩
  by_cases hbe : b = e
  · subst hbe; exact heo
  · exact ⟨u, k b u hbe q⟩
theorem Un.mono (u : Un fs ex H H1 h h1) (hs : ∀ b ∈ fs, b ∈ fs') (hx : ∀ b ∈ ex, b ∈ ex') : Un fs' ex' H H1 h h1 :=
  ⟨fun b ob q n hb he => u.keep b ob q n (fun z => hb (hs b z)) fun z => he (hx b z), fun _ _ q n _ he => u.any q n fun z => he (hx _ z), fun b ob q n he => u.free b ob q n fun z => he (hx b z), fun b ob q he => u.there b ob q fun z => he (hx b z), u.tups, u.frzs, u.tbls⟩
end

noncomputable def trk (h : Heap) (H : Hp) : List Addr := (List.range h.objs.size).filter fun a => (H a).isSome
noncomputable def hidT (h : Heap) (H : Hp) : Heap := PySem.W.hideAll h (trk h H)
theorem hidT_size (h : Heap) (H : Hp) : (hidT h H).objs.size = h.objs.size := PySem.W.hideAll_size _ _
theorem hidT_get {h : Heap} {H : Hp} {b : Addr} {o : Obj} (e : h.get? b = some o) (n : H b = none) : (hidT h H).get? b = some o :=
  PySem.W.hideAll_get _ e fun hm => by
    have q : (H b).isSome = true := (List.mem_filter.mp hm).2
    rw [n] at q; simp at q
theorem of_hidT {h : Heap} {H : Hp} {b : Addr} {o : Obj} (e : (hidT h H).get? b = some o) : h.get? b = some o ∧ H b = none := by
  have e' : h.get? b = some o := PySem.W.of_hideAll (trk h H) e
  refine ⟨e', ?_⟩
  cases q : H b with
  | none => rfl
  | some x =>
    have hm : b ∈ trk h H := List.mem_filter.mpr ⟨List.mem_range.mpr (Heap.lt_size e'), by simp [q]⟩
    have z : (hidT h H).get? b = none := PySem.W.hideAll_none (trk h H) hm
    rw [z] at e; cases e

noncomputable def allNews (g h : Heap) (L : Addr) : List (Addr × Obj) := (List.range h.objs.size).filterMap fun a => if a = L ∨ (g.get? a).isSome = true then none else (h.get? a).map fun o => (a, o)
noncomputable def rest (g h : Heap) (L d : Addr) : List (Addr × Obj) := (allNews g h L).filter fun p => decide (p.1 ≠ d)
end L2

namespace L2
open PySem PySem.Spec PyProof.Rows

structure Mod (K : PySem.W.Frag) (mg : Str → Option Value) (base : Heap) : Prop where
  kin : K.In base
  glob : base.Ns mainGlobals mg
  blt : ∃ mb, base.Ns builtinsNs mb ∧ ∀ x : Str, x ≠ "__name__" → mb x = bootBuiltins x
  nolimit : base.NoLimit

/-- the context: a def's body (or a comprehension's block) running. base: fixed through the whole law; s₀, H₀: the entry; outer: the frames whose slots others may change (a def's callers); stack: all frames that run;
   ex: iterators that were made ahead of the entry and are walked here (a comprehension's); fn: the names whose cells were made at the entry (a def: all; a comprehension's block: its own); calm: not within an except suite; pn: pins that every state bears; xe: what is wanted of an exception that leaves the code -/
structure Cx where
  prog : Program
  w : World
  K : PySem.W.Frag
  mg : Str → Option Value
  base : Heap
  A : Around
  N : List Str
  s₀ : Shared
  H₀ : Hp
  env : Env
  outer : List Env
  stack : List Env
  ex : List Addr
  fn : Str → Bool
  calm : Bool
  pn : List (Addr × Obj)
  xe : Value → Shared → Prop
noncomputable def frs (l : List Env) : List Addr := l.filterMap (·.frame)
noncomputable abbrev Cx.fs (X : Cx) : List Addr := frs X.outer

noncomputable def Vis (sc : Scope) (x : Str) : Prop := sc.names.lookup x = some .local ∨ sc.names.lookup x = some .cell ∨ sc.names.lookup x = some .free
noncomputable def Loc (sc : Scope) (x : Str) : Prop := sc.names.lookup x = some .local ∨ sc.names.lookup x = some .cell
noncomputable def Look (env : Env) (h : Heap) (m : Str → Option Value) (x : Str) (u : Value) : Prop :=
  (env.kindOf x = some .local ∧ m x = some u) ∨ ((env.kindOf x = some .cell ∨ env.kindOf x = some .free) ∧ ∃ c, env.cells.lookup x = some c ∧ h.IsCell c (some u))

structure Cx.Ok (X : Cx) : Prop where
  mod : Mod X.K X.mg X.base
  kind : X.env.scope.kind = .function
  glob : X.env.globals = mainGlobals
  blt : X.env.builtins = builtinsNs
  above : X.s₀.heap.objs.size ≤ X.env.locals
  inj : ∀ x y c, X.env.cells.lookup x = some c → X.env.cells.lookup y = some c → x = y
  has : ∀ x, (X.env.kindOf x = some .cell ∨ X.env.kindOf x = some .free) → ∃ c, X.env.cells.lookup x = some c
  cab : ∀ x c, X.fn x = true → X.env.cells.lookup x = some c → X.s₀.heap.objs.size ≤ c
  hd : X.calm = true → X.A.handled = none
  frames : X.A.frames = some X.stack
  stk : X.stack = X.outer ∨ (X.stack = X.env :: X.outer ∧ X.env.frame = some X.env.locals)
  exf : ∀ b ∈ X.ex, b ≠ X.env.locals ∧ ∀ x c, X.env.cells.lookup x = some c → c ≠ b
  bs : ∀ b o, X.base.get? b = some o → X.s₀.heap.get? b = some o ∧ X.H₀ b = none
  bsz : X.base.objs.size ≤ X.s₀.heap.objs.size
  noex : ∀ b o, X.base.get? b = some o → b ∉ X.ex
  exfs : ∀ b ∈ X.ex, b ∉ X.fs
  funs : X.s₀.heap.FunFrames X.base X.outer
  frf : ∀ b ∈ X.fs, X.H₀ b = none

structure Inv (X : Cx) (pins : List (Addr × Obj)) (σ : List (Option V)) (H : Hp) (s : Shared) : Prop where
  ok : X.Ok
  os : s.os = X.s₀.os
  bare : AllBare s.gens
  base : Un X.fs X.ex X.H₀ H X.s₀.heap s.heap
  loc : ∃ m, s.heap.Ns X.env.locals m ∧ ∀ (i : Nat) (x : Str) (v : V), X.N[i]? = some x → σ[i]? = some (some v) → Vis X.env.scope x → ∃ u, RelV v u ∧ Look X.env s.heap m x u
  cell : ∀ x c, X.env.cells.lookup x = some c → ∃ v, s.heap.IsCell c v
  free : H X.env.locals = none
  freeC : ∀ x c, X.env.cells.lookup x = some c → H c = none
  pin : ∀ p ∈ X.pn ++ pins, s.heap.get? p.1 = some p.2 ∧ H p.1 = none ∧ p.1 ≠ X.env.locals ∧ p.1 ∉ X.fs ∧ ∀ v, p.2.data ≠ .cell v
  hok : HOk X.prog X.w H s.heap
  len : σ.length = X.N.length

section
variable {X : Cx} {pins : List (Addr × Obj)} {σ : List (Option V)} {H H' : Hp} {s : Shared} {h' : Heap}

theorem Cx.Ok.nofr (ok : X.Ok) {b : Addr} {o : Obj} (e : X.base.get? b = some o) : b ∉ X.fs := fun hb => by
  have := (ok.funs.mem hb).1
  rw [e] at this; cases this
theorem Inv.bs (I : Inv X pins σ H s) : ∀ b o, X.base.get? b = some o → s.heap.get? b = some o ∧ H b = none := fun b o e =>
  ⟨I.base.keep b o (I.ok.bs b o e).1 (I.ok.bs b o e).2 (I.ok.nofr e) (I.ok.noex b o e), I.base.free b o (I.ok.bs b o e).1 (I.ok.bs b o e).2 (I.ok.noex b o e)⟩
theorem Inv.bk (I : Inv X pins σ H s) : ∀ b o, X.base.get? b = some o → s.heap.get? b = some o := fun b o e => (I.bs b o e).1
theorem Inv.mod (I : Inv X pins σ H s) : Mod X.K X.mg X.base := I.ok.mod
theorem Inv.kIn (I : Inv X pins σ H s) : X.K.In s.heap := I.ok.mod.kin.keeps I.bk
theorem Inv.nolimit (I : Inv X pins σ H s) : s.heap.NoLimit := I.ok.mod.nolimit.keeps I.bk
theorem Inv.fr (I : Inv X pins σ H s) : ∃ m, Fr X.base X.env.locals s.heap m :=
  let ⟨m, hn, _⟩ := I.loc
  ⟨m, hn, I.bk, Nat.le_trans I.ok.bsz I.ok.above⟩
theorem Inv.lt (I : Inv X pins σ H s) : X.env.locals < s.heap.objs.size := let ⟨_, hn, _⟩ := I.loc; hn.lt
theorem Inv.sz (I : Inv X pins σ H s) : X.s₀.heap.objs.size ≤ s.heap.objs.size := Nat.le_trans I.ok.above (Nat.le_of_lt I.lt)
theorem Inv.nofs (I : Inv X pins σ H s) {a : Addr} (h : s.heap.objs.size ≤ a) : a ∉ X.fs := fun hb => by
  obtain ⟨_, o, ho, _⟩ := I.ok.funs.mem hb
  exact absurd (Nat.lt_of_lt_of_le (Heap.lt_size ho) (Nat.le_trans I.sz h)) (Nat.lt_irrefl _)
theorem Inv.cne (I : Inv X pins σ H s) : ∀ x c, X.env.cells.lookup x = some c → c ≠ X.env.locals := fun x c e z => by
  obtain ⟨v, o, ho, hd⟩ := I.cell x c e
  obtain ⟨m, ⟨o', es, ep, ho', hd', _⟩, _⟩ := I.loc
  rw [z, ho'] at ho; cases ho; rw [hd'] at hd; cases hd
theorem Inv.funs (I : Inv X pins σ H s) : s.heap.FunFrames X.base X.outer := by
  have all : ∀ (l : List Env), (∀ b ∈ frs l, b ∈ X.fs) → X.s₀.heap.FunFrames X.base l → s.heap.FunFrames X.base l := by
    intro l
    induction l with
    | nil => intro _ _; trivial
    | cons env r ih =>
      intro hs hl
      obtain ⟨hk, ⟨L, o, hf, hn, ho, hd⟩, hr⟩ := hl
      have hL : L ∈ X.fs := hs L (by unfold frs; rw [List.filterMap_cons, hf]; exact List.mem_cons_self)
      obtain ⟨sl, e⟩ := I.base.slot L o ho (I.ok.frf L hL) hL fun z => I.ok.exfs L z hL
      exact ⟨hk, ⟨L, _, hf, hn, e, hd⟩, ih (fun b hb => hs b (by unfold frs; rw [List.filterMap_cons, hf]; exact List.mem_cons_of_mem _ hb)) hr⟩
  exact all X.outer (fun _ hb => hb) I.ok.funs

theorem Inv.stack (I : Inv X pins σ H s) : s.heap.FunFrames X.base X.stack := by
  rcases I.ok.stk with e | ⟨e, hf⟩
  · rw [e]; exact I.funs
  · rw [e]
    obtain ⟨m, hn, _⟩ := I.loc
    refine .cons (by rw [I.ok.kind]; decide) hf hn ?_ I.funs
    exact Heap.get?_none_of_le (Nat.le_trans I.ok.bsz I.ok.above)
theorem Inv.stkSub (I : Inv X pins σ H s) : ∀ b ∈ frs X.stack, b ∈ X.env.locals :: X.fs := fun b hb => by
  rcases I.ok.stk with e | ⟨e, hf⟩
  · rw [e] at hb; exact List.mem_cons_of_mem _ hb
  · rw [e] at hb
    unfold frs at hb
    rw [List.filterMap_cons, hf] at hb
    exact hb
theorem Inv.stkFree (I : Inv X pins σ H s) : ∀ b ∈ frs X.stack, H b = none := fun b hb => by
  rcases List.mem_cons.mp (I.stkSub b hb) with e | hb
  · rw [e]; exact I.free
  · obtain ⟨_, o, ho, _⟩ := I.ok.funs.mem hb
    exact I.base.free b o ho (I.ok.frf b hb) fun z => I.ok.exfs b z hb

theorem Inv.step {g' : Array GenState} {t' : Nat} {d' : Drawn} {ch : List Addr} (I : Inv X pins σ H s)
    (hch : ∀ b ∈ ch, (b ∈ X.ex ∨ X.s₀.heap.objs.size ≤ b) ∧ b ≠ X.env.locals ∧ (∀ x c, X.env.cells.lookup x = some c → c ≠ b) ∧ ∀ p ∈ X.pn ++ pins, p.1 ≠ b)
    (keep : ∀ b o, b ≠ X.env.locals → b ∉ X.fs → b ∉ ch → s.heap.get? b = some o → H b = none → h'.get? b = some o)
    (slot : ∀ b o, b ≠ X.env.locals → b ∈ X.fs → b ∉ ch → s.heap.get? b = some o → H b = none → ∃ sl, h'.get? b = some { o with slots := sl }) (free : ∀ b o, b ∉ ch → s.heap.get? b = some o → H b = none → H' b = none)
    (there : ∀ b o, b ∉ ch → s.heap.get? b = some o → ∃ o', h'.get? b = some o')
    (tups : ∀ b xs, H b = some (.tup xs) → H' b = some (.tup xs)) (frzs : ∀ b o u, H b = some (.frz o u) → H' b = some (.frz o u)) (tbls : ∀ b ps, H b = some (.tbl ps) → ∃ more, H' b = some (.tbl (ps ++ more)))
    (ns : ∀ m, s.heap.Ns X.env.locals m → h'.Ns X.env.locals m) (hok : HOk X.prog X.w H' h') (hg : AllBare g') :
    Inv X pins σ H' { s with heap := h', gens := g', drawn := d', toks := t' } := by
  have neL : ∀ b o, X.s₀.heap.get? b = some o → b ≠ X.env.locals := fun b o e => Nat.ne_of_lt (Nat.lt_of_lt_of_le (Heap.lt_size e) I.ok.above)
  have neC : ∀ b o, X.s₀.heap.get? b = some o → b ∉ X.ex → b ∉ ch := fun b o e hx hb => by
    rcases (hch b hb).1 with z | z
    · exact hx z
    · exact absurd (Nat.lt_of_lt_of_le (Heap.lt_size e) z) (Nat.lt_irrefl _)
  have cellK : ∀ x c, X.env.cells.lookup x = some c → ∀ v, s.heap.IsCell c v → h'.IsCell c v := fun x c e v ⟨o, ho, hd⟩ => by
    have nch : c ∉ ch := fun z => (hch c z).2.2.1 x c e rfl
    by_cases hc : c ∈ X.fs
    · obtain ⟨sl, q⟩ := slot c o (I.cne x c e) hc nch ho (I.freeC x c e)
      exact ⟨_, q, hd⟩
    · exact ⟨o, keep c o (I.cne x c e) hc nch ho (I.freeC x c e), hd⟩
  refine ⟨I.ok, I.os, hg, ⟨fun b o e n hb hx => ?_, fun b o e n hb hx => ?_, fun b o e n hx => ?_, fun b o e hx => ?_, fun b xs e => tups b xs (I.base.tups b xs e), fun b o xs e => frzs b o xs (I.base.frzs b o xs e), fun b ps e => ?_⟩, ?_, fun x c e => ?_, ?_, fun x c e => ?_, fun p hp => ?_, hok, I.len⟩
  · exact keep b o (neL b o e) hb (neC b o e hx) (I.base.keep b o e n hb hx) (I.base.free b o e n hx)
  · obtain ⟨sl, e1⟩ := I.base.slot b o e n hb hx
    obtain ⟨sl', e2⟩ := slot b _ (neL b o e) hb (neC b o e hx) e1 (I.base.free b o e n hx)
    exact ⟨sl', e2⟩
  · obtain ⟨o', e1⟩ := I.base.there b o e hx
    exact free b o' (neC b o e hx) e1 (I.base.free b o e n hx)
  · obtain ⟨o', e1⟩ := I.base.there b o e hx
    exact there b o' (neC b o e hx) e1
  · obtain ⟨m1, e1⟩ := I.base.tbls b ps e
    obtain ⟨m2, e2⟩ := tbls b _ e1
    exact ⟨m1 ++ m2, by rw [e2, Array.append_assoc]⟩
  · obtain ⟨m, hn, hl⟩ := I.loc
    refine ⟨m, ns m hn, fun i x v e1 e2 e3 => ?_⟩
    obtain ⟨u, r, l⟩ := hl i x v e1 e2 e3
    refine ⟨u, r, ?_⟩
    rcases l with l | ⟨k, c, e, z⟩
    · exact .inl l
    · exact .inr ⟨k, c, e, cellK x c e _ z⟩
  · obtain ⟨v, z⟩ := I.cell x c e
    exact ⟨v, cellK x c e v z⟩
  · obtain ⟨m, ⟨o, _, _, ho, _⟩, _⟩ := I.loc
    exact free _ o (fun z => (hch _ z).2.1 rfl) ho I.free
  · obtain ⟨v, o, ho, hd⟩ := I.cell x c e
    exact free c o (fun z => (hch c z).2.2.1 x c e rfl) ho (I.freeC x c e)
  · obtain ⟨e, n, ne, nf, d⟩ := I.pin p hp
    have nch : p.1 ∉ ch := fun z => (hch p.1 z).2.2.2 p hp rfl
    exact ⟨keep p.1 p.2 ne nf nch e n, free p.1 p.2 nch e n, ne, nf, d⟩
theorem Inv.un {t' : Nat} (I : Inv X pins σ H s) (u : Un X.fs [] H H' s.heap h') (hok : HOk X.prog X.w H' h') : Inv X pins σ H' { s with heap := h', toks := t' } := by
  obtain ⟨m, ⟨o, es, ep, ho, r⟩, _⟩ := id I.loc
  obtain ⟨sl, hL⟩ := u.any ho I.free (by simp)
  exact I.step (g' := s.gens) (d' := s.drawn) (ch := []) (fun _ z => nomatch z) (fun b o _ hb _ e n => u.keep b o e n hb (by simp)) (fun b o _ hb _ e n => u.slot b o e n hb (by simp)) (fun b o _ e n => u.free b o e n (by simp)) (fun b o _ e => u.there b o e (by simp)) u.tups u.frzs u.tbls (fun m' hm => by
    obtain ⟨o', es', ep', ho', r'⟩ := hm
    rw [ho] at ho'; cases ho'
    exact ⟨_, es', ep', hL, r'⟩) hok I.bare
theorem Inv.call {g' : Array GenState} {t' : Nat} {d' : Drawn} {ch : List Addr} (I : Inv X pins σ H s) (u : Un (frs X.stack) ch H H' s.heap h') (hok : HOk X.prog X.w H' h') (hg : AllBare g')
    (hch : ∀ b ∈ ch, (b ∈ X.ex ∨ X.s₀.heap.objs.size ≤ b) ∧ b ≠ X.env.locals ∧ (∀ x c, X.env.cells.lookup x = some c → c ≠ b) ∧ ∀ p ∈ X.pn ++ pins, p.1 ≠ b) :
    Inv X pins σ H' { s with heap := h', gens := g', drawn := d', toks := t' } := by
  obtain ⟨m, ⟨o, es, ep, ho, r⟩, _⟩ := id I.loc
  obtain ⟨sl, hL⟩ := u.any ho I.free fun z => (hch _ z).2.1 rfl
  exact I.step (ch := ch) hch (fun b o hL hb hc e n => u.keep b o e n (fun z => (List.mem_cons.mp (I.stkSub b z)).elim hL hb) hc) (fun b o _ _ hc e n => u.any e n hc) (fun b o hc e n => u.free b o e n hc) (fun b o hc e => u.there b o e hc) u.tups u.frzs u.tbls (fun m' hm => by
    obtain ⟨o', es', ep', ho', r'⟩ := hm
    rw [ho] at ho'; cases ho'
    exact ⟨_, es', ep', hL, r'⟩) hok hg
theorem Inv.turned {t' : Nat} {it : Addr} (I : Inv X pins σ H s) (k : ∀ b o, b ≠ it → s.heap.get? b = some o → h'.get? b = some o) (hn : H it = none) (hL : it ≠ X.env.locals)
    (h1 : it ∈ X.ex ∨ X.s₀.heap.objs.size ≤ it) (h2 : ∀ x c, X.env.cells.lookup x = some c → c ≠ it) (h3 : ∀ p ∈ X.pn ++ pins, p.1 ≠ it) : Inv X pins σ H { s with heap := h', toks := t' } := by
  have nit : ∀ b u, H b = some u → b ≠ it := fun b u e z => by rw [z, hn] at e; cases e
  refine I.step (g' := s.gens) (d' := s.drawn) (ch := [it]) (fun b hb => ?_) (fun b o _ _ hc e _ => k b o (fun z => hc (by simp [z])) e) (fun b o _ _ hc e _ => ⟨o.slots, k b o (fun z => hc (by simp [z])) e⟩) (fun _ _ _ _ n => n)
    (fun b o hc e => ⟨o, k b o (fun z => hc (by simp [z])) e⟩) (fun _ _ e => e) (fun _ _ _ e => e) (fun b ps e => ⟨#[], by rw [e]; simp⟩) (fun m hm => ?_) (fun b u e => ?_) I.bare
  · have e : b = it := by simpa using hb
    subst e
    exact ⟨h1, hL, h2, h3⟩
  · obtain ⟨o, es, ep, ho, r⟩ := hm
    exact ⟨o, es, ep, k _ o (Ne.symm hL) ho, r⟩
  · refine (I.hok b u e).stay (fun c v hc q => k c v ?_ q) (fun _ q => q) fun _ _ q => q
    rcases hc with z | z
    · rw [z]; exact nit b u e
    · exact nit c _ z
theorem Inv.tok (I : Inv X pins σ H s) (t : Nat) : Inv X pins σ H { s with toks := t } := I.un (h' := s.heap) (t' := t) Un.refl I.hok
theorem Inv.kept {t' : Nat} (I : Inv X pins σ H s) (k : ∀ b u, s.heap.get? b = some u → h'.get? b = some u) : Inv X pins σ H { s with heap := h', toks := t' } := I.un (Un.kept k) (I.hok.kept k)
theorem Inv.laid {a : Addr} {o : HO} {t' : Nat} (I : Inv X pins σ H s) (k : ∀ b u, s.heap.get? b = some u → h'.get? b = some u) (hp : s.heap.objs.size ≤ a) (new : ObjOk X.prog X.w (upd H a o) h' a o) :
    Inv X pins σ (upd H a o) { s with heap := h', toks := t' } := I.un (Un.laid k hp (I.hok.fresh hp)) (I.hok.laid k hp new)
theorem Inv.write {x e : Addr} {o : HO} {t' : Nat} (I : Inv X pins σ H s) (mu : Mut (H x)) (he : e = x ∨ H e = some (.own x)) (k : ∀ b u, b ≠ e → s.heap.get? b = some u → h'.get? b = some u) (heo : ∃ u, h'.get? e = some u)
    (new : ObjOk X.prog X.w (upd H x o) h' x o) : Inv X pins σ (upd H x o) { s with heap := h', toks := t' } := I.un (Un.write mu he k heo) (I.hok.write mu he k heo new)
theorem Inv.weak {σ' : List (Option V)} (I : Inv X pins σ H s) (hl : σ'.length = σ.length) (w : ∀ (i : Nat) v, σ'[i]? = some (some v) → σ[i]? = some (some v)) : Inv X pins σ' H s :=
  ⟨I.ok, I.os, I.bare, I.base, let ⟨m, hn, hl'⟩ := I.loc; ⟨m, hn, fun i x v e1 e2 e3 => hl' i x v e1 (w i v e2) e3⟩, I.cell, I.free, I.freeC, I.pin, I.hok, hl.trans I.len⟩
theorem Inv.pins_of {pins' : List (Addr × Obj)} (I : Inv X pins σ H s) (h : ∀ p ∈ pins', s.heap.get? p.1 = some p.2 ∧ H p.1 = none ∧ p.1 ≠ X.env.locals ∧ p.1 ∉ X.fs ∧ ∀ v, p.2.data ≠ .cell v) : Inv X pins' σ H s :=
  ⟨I.ok, I.os, I.bare, I.base, I.loc, I.cell, I.free, I.freeC, fun p hp => (List.mem_append.mp hp).elim (fun z => I.pin p (List.mem_append_left _ z)) (h p), I.hok, I.len⟩

theorem nodup_ix {N : List Str} (hN : N.Nodup) {i j : Nat} {x : Str} (a : N[i]? = some x) (b : N[j]? = some x) : i = j := by
  obtain ⟨h1, e1⟩ := List.getElem?_eq_some_iff.mp a
  obtain ⟨h2, e2⟩ := List.getElem?_eq_some_iff.mp b
  exact (List.getElem_inj hN).mp (e1.trans e2.symm)

theorem store_ok2 {M : Model} {A : Around} {E : Value → Shared → Prop} {i : Nat} {x : Str} {v : V} {u : Value} {Q : Unit → Shared → Prop} (I : Inv X pins σ H s) (hN : X.N.Nodup) (hi : X.N[i]? = some x) (hx : Loc X.env.scope x) (r : RelV v u)
    (h : ∀ s', Inv X pins (σ.set i (some v)) H s' → (∃ a, Heap.SameBut a s.heap s'.heap ∧ (a = X.env.locals ∨ X.env.cells.lookup x = some a)) → Q () s') (hf : X.fn x = true ∨ X.env.scope.names.lookup x = some .local := by first | exact .inl rfl | exact .inr rfl | assumption) : wpAny M A (storeName X.env x u) Q E s := by
  obtain ⟨m, hn, hl⟩ := id I.loc
  have hcls : (X.env.scope.kind == .class || (X.env.scope.kind == .module && X.env.locals != X.env.globals)) = false := by rw [I.ok.kind]; rfl
  have hiσ : i < σ.length := by rw [I.len]; exact (List.getElem?_eq_some_iff.mp hi).1
  have cne := I.cne
  have tracked : ∀ {a : Addr} {h' : Heap}, (∃ o, s.heap.get? a = some o ∧ H a = none) → Heap.SameBut a s.heap h' → HOk X.prog X.w H h' := fun {a h'} ha hs b ob e => by
    obtain ⟨_, _, hfree⟩ := ha
    refine (I.hok b ob e).stay (fun c w' hc q => (hs.2 c ?_).trans q) (fun _ q => q) fun _ _ q => q
    rintro rfl
    rcases hc with rfl | hc
    · rw [hfree] at e; cases e
    · rw [hfree] at hc; cases hc
  rcases hx with hk | hk
  · refine wpAny_storeName_local hk hn (fun h' hn' hs => ?_) hcls
    obtain ⟨oL, _, _, hoL, _⟩ := id hn
    refine h _ ⟨I.ok, I.os, I.bare, ⟨fun b o e n hb hx => ?_, fun b o e n hb hx => ?_, I.base.free, fun b o e hx => ?_, I.base.tups, I.base.frzs, I.base.tbls⟩, ⟨_, hn', fun j y v' e1 e2 e3 => ?_⟩, fun y c e => ?_, I.free, I.freeC, fun p hp => ?_, tracked ⟨oL, hoL, I.free⟩ hs, by simpa using I.len⟩ ⟨_, hs, .inl rfl⟩
    · exact (hs.2 b (Nat.ne_of_lt (Nat.lt_of_lt_of_le (Heap.lt_size e) I.ok.above))).trans (I.base.keep b o e n hb hx)
    · obtain ⟨sl, e1⟩ := I.base.slot b o e n hb hx
      exact ⟨sl, (hs.2 b (Nat.ne_of_lt (Nat.lt_of_lt_of_le (Heap.lt_size e) I.ok.above))).trans e1⟩
    · obtain ⟨o', e1⟩ := I.base.there b o e hx
      exact ⟨o', (hs.2 b (Nat.ne_of_lt (Nat.lt_of_lt_of_le (Heap.lt_size e) I.ok.above))).trans e1⟩
    · by_cases hj : j = i
      · subst hj
        rw [hi] at e1; cases e1
        rw [List.getElem?_set_self hiσ] at e2
        cases e2
        exact ⟨u, r, .inl ⟨hk, by simp⟩⟩
      · rw [List.getElem?_set_ne (Ne.symm hj)] at e2
        obtain ⟨u', r', q⟩ := hl j y v' e1 e2 e3
        refine ⟨u', r', ?_⟩
        rcases q with ⟨k, e⟩ | ⟨k, c, e, z⟩
        · refine .inl ⟨k, ?_⟩
          have : y ≠ x := fun e => hj (nodup_ix hN e1 (e ▸ hi))
          simp [this, e]
        · exact .inr ⟨k, c, e, z.sameBut hs (cne y c e)⟩
    · obtain ⟨w', z⟩ := I.cell y c e
      exact ⟨w', z.sameBut hs (cne y c e)⟩
    · obtain ⟨e, n, ne, nf, d⟩ := I.pin p hp
      exact ⟨(hs.2 p.1 ne).trans e, n, ne, nf, d⟩
  · have hfn : X.fn x = true := by
      rcases hf with z | z
      · exact z
      · rw [z] at hk; cases hk
    obtain ⟨c, hc⟩ := I.ok.has x (.inl hk)
    obtain ⟨w', z⟩ := I.cell x c hc
    refine wpAny_storeName_cell I.ok.kind hk hc z (fun h' hc' hs => ?_)
    obtain ⟨oc, hoc, hocd⟩ := id z
    refine h { s with heap := h' } ⟨I.ok, I.os, I.bare, ⟨fun b o e n hb hx => ?_, fun b o e n hb hx => ?_, I.base.free, fun b o e hx => ?_, I.base.tups, I.base.frzs, I.base.tbls⟩, ⟨m, hn.sameBut hs (Ne.symm (cne x c hc)), fun j y v' e1 e2 e3 => ?_⟩, fun y c' e => ?_, I.free, I.freeC, fun p hp => ?_, tracked ⟨oc, hoc, I.freeC x c hc⟩ hs, by simpa using I.len⟩ ⟨c, hs, .inr hc⟩
    · exact (hs.2 b (Nat.ne_of_lt (Nat.lt_of_lt_of_le (Heap.lt_size e) (I.ok.cab x c hfn hc)))).trans (I.base.keep b o e n hb hx)
    · obtain ⟨sl, e1⟩ := I.base.slot b o e n hb hx
      exact ⟨sl, (hs.2 b (Nat.ne_of_lt (Nat.lt_of_lt_of_le (Heap.lt_size e) (I.ok.cab x c hfn hc)))).trans e1⟩
    · obtain ⟨o', e1⟩ := I.base.there b o e hx
      exact ⟨o', (hs.2 b (Nat.ne_of_lt (Nat.lt_of_lt_of_le (Heap.lt_size e) (I.ok.cab x c hfn hc)))).trans e1⟩
    · by_cases hj : j = i
      · subst hj
        rw [hi] at e1; cases e1
        rw [List.getElem?_set_self hiσ] at e2
        cases e2
        exact ⟨u, r, .inr ⟨.inl hk, c, hc, hc'⟩⟩
      · rw [List.getElem?_set_ne (Ne.symm hj)] at e2
        obtain ⟨u', r', q⟩ := hl j y v' e1 e2 e3
        refine ⟨u', r', ?_⟩
        rcases q with q | ⟨k, c', e, z'⟩
        · exact .inl q
        · refine .inr ⟨k, c', e, z'.sameBut hs ?_⟩
          rintro rfl
          exact hj (nodup_ix hN e1 (I.ok.inj _ _ _ e hc ▸ hi))
    · by_cases hcc : c' = c
      · subst hcc; exact ⟨_, hc'⟩
      · obtain ⟨w2, z2⟩ := I.cell y c' e
        exact ⟨w2, z2.sameBut hs hcc⟩
    · obtain ⟨e, n, ne, nf, d⟩ := I.pin p hp
      refine ⟨(hs.2 p.1 ?_).trans e, n, ne, nf, d⟩
      intro q
      rw [q, hoc] at e
      have q' : oc = p.2 := Option.some.inj e
      exact d w' (by rw [← q']; exact hocd)
theorem store_ok {M : Model} {A : Around} {E : Value → Shared → Prop} {i : Nat} {x : Str} {v : V} {u : Value} {Q : Unit → Shared → Prop} (I : Inv X pins σ H s) (hN : X.N.Nodup) (hi : X.N[i]? = some x) (hx : Loc X.env.scope x) (r : RelV v u)
    (h : ∀ s', Inv X pins (σ.set i (some v)) H s' → Q () s') (hf : X.fn x = true ∨ X.env.scope.names.lookup x = some .local := by first | exact .inl rfl | exact .inr rfl | assumption) : wpAny M A (storeName X.env x u) Q E s :=
  store_ok2 I hN hi hx r (fun s' I' _ => h s' I') hf
theorem Inv.call' {s' : Shared} {ch : List Addr} (I : Inv X pins σ H s) (ho : s'.os = s.os) (u : Un (frs X.stack) ch H H' s.heap s'.heap) (hok : HOk X.prog X.w H' s'.heap) (hg : AllBare s'.gens)
    (hch : ∀ b ∈ ch, (b ∈ X.ex ∨ X.s₀.heap.objs.size ≤ b) ∧ b ≠ X.env.locals ∧ (∀ x c, X.env.cells.lookup x = some c → c ≠ b) ∧ ∀ p ∈ X.pn ++ pins, p.1 ≠ b) : Inv X pins σ H' s' := by
  obtain ⟨h', g', d', t', o'⟩ := s'
  have e : o' = s.os := ho
  subst e
  exact I.call (g' := g') (t' := t') (d' := d') u hok hg hch
end

noncomputable abbrev XK := Value → Option Addr → Hp → Prop
noncomputable abbrev St := List (Option V)
noncomputable abbrev VK := V → Hp → Prop
noncomputable abbrev TE := St → Hp → VK → Prop
noncomputable abbrev TT := St → Hp → (Bool → Hp → Prop) → Prop
noncomputable abbrev TA := St → Hp → (List V → Hp → Prop) → Prop
structure Ends where
  nx : St → Hp → Prop
  rt : VK
  bk : St → Hp → Prop := fun _ _ => False
  ct : St → Hp → Prop := fun _ _ => False
noncomputable abbrev TS := Ends → St → Hp → Prop

noncomputable def EP (X : Cx) (pins : List (Addr × Obj)) (σ : St) (Q : VK) (u : Value) (s' : Shared) : Prop := ∃ v H', Inv X pins σ H' s' ∧ RelV v u ∧ Q v H'
noncomputable def TP (X : Cx) (pins : List (Addr × Obj)) (σ : St) (Q : Bool → Hp → Prop) (b : Bool) (s' : Shared) : Prop := ∃ H', Inv X pins σ H' s' ∧ Q b H'
noncomputable def AP (X : Cx) (pins : List (Addr × Obj)) (σ : St) (Q : List V → Hp → Prop) (us : List Value) (s' : Shared) : Prop := ∃ vs H', Inv X pins σ H' s' ∧ Vals vs us ∧ Q vs H'
noncomputable def SP (X : Cx) (pins : List (Addr × Obj)) (D : Ends) (f : Flow) (s' : Shared) : Prop :=
  match f with
  | .next => ∃ σ' H', Inv X pins σ' H' s' ∧ D.nx σ' H'
  | .brk => ∃ σ' H', Inv X pins σ' H' s' ∧ D.bk σ' H'
  | .cont => ∃ σ' H', Inv X pins σ' H' s' ∧ D.ct σ' H'
  | .ret u => ∃ v σ' H', Inv X pins σ' H' s' ∧ RelV v u ∧ D.rt v H'

noncomputable def PE (X : Cx) (e : Expr) (t : TE) : Prop :=
  ∀ (pins : List (Addr × Obj)) (s : Shared) (σ : St) (H : Hp) (Q : VK), Inv X pins σ H s → t σ H Q → wpAny (model X.prog X.w) X.A (eval e X.env) (EP X pins σ Q) X.xe s
noncomputable def PT (X : Cx) (e : Expr) (t : TT) : Prop :=
  ∀ (pins : List (Addr × Obj)) (s : Shared) (σ : St) (H : Hp) (Q : Bool → Hp → Prop), Inv X pins σ H s → t σ H Q → wpAny (model X.prog X.w) X.A (isTrue e X.env (eval e X.env)) (TP X pins σ Q) X.xe s
noncomputable def PW (X : Cx) (e : Expr) (t : TT) : Prop :=
  ∀ (whole : Sem Value) (pins : List (Addr × Obj)) (s : Shared) (σ : St) (H : Hp) (Q : Bool → Hp → Prop), Inv X pins σ H s → t σ H Q → wpAny (model X.prog X.w) X.A (isTrue e X.env whole) (TP X pins σ Q) X.xe s
theorem PW.pt {X : Cx} {e : Expr} {t : TT} (h : PW X e t) : PT X e t := h _
noncomputable def PA (X : Cx) (es : List Expr) (t : TA) : Prop :=
  ∀ (pos : Pos) (pins : List (Addr × Obj)) (s : Shared) (σ : St) (H : Hp) (Q : List V → Hp → Prop), Inv X pins σ H s → t σ H Q → wpAny (model X.prog X.w) X.A (spliced (backTo pos (starEach es X.env))) (AP X pins σ Q) X.xe s
noncomputable def PS (X : Cx) (st : Stmt) (t : TS) : Prop :=
  ∀ (pins : List (Addr × Obj)) (s : Shared) (σ : St) (H : Hp) (D : Ends), Inv X pins σ H s → t D σ H → wpAny (model X.prog X.w) X.A (exec st X.env) (SP X pins D) X.xe s
noncomputable def PSs (X : Cx) (st : List Stmt) (t : TS) : Prop :=
  ∀ (pins : List (Addr × Obj)) (s : Shared) (σ : St) (H : Hp) (D : Ends), Inv X pins σ H s → t D σ H → wpAny (model X.prog X.w) X.A (execs st X.env) (SP X pins D) X.xe s
theorem thn {α : Type} {t : Sem α} {Q Q' : α → Shared → Prop} {M : Model} {A : Around} {E : Value → Shared → Prop} {s : Shared} (h : wpAny M A t Q E s) (hQ : ∀ a s, Q a s → Q' a s) : wpAny M A t Q' E s := wpAny_mono h hQ fun _ _ x => x
end L2

namespace L2
open PySem PySem.Spec PyProof.Rows
section
variable {X : Cx}

noncomputable def tVar (i : Nat) : TE := fun σ H Q => ∃ v, σ[i]? = some (some v) ∧ Q v H
noncomputable abbrev tC (v : V) : TE := fun _ H Q => Q v H
theorem pe_var {i : Nat} {x : Str} {pos : Pos} (hN : X.N[i]? = some x) (hv : Vis X.env.scope x) (hd : (x == ("__debug__" : Str)) = false := by decide) (hcd : (x == ("__classdict__" : Str)) = false := by decide) : PE X (.Name x pos) (tVar i) := by
  intro pins s σ H Q I h
  obtain ⟨v, e, h⟩ := h
  obtain ⟨m, hn, hl⟩ := I.loc
  obtain ⟨u, r, l⟩ := hl i x v hN e hv
  have fin : EP X pins σ Q u s := ⟨v, H, I, r, h⟩
  rcases l with ⟨hk, hm⟩ | ⟨hk, c, hc, hcell⟩
  · exact wpAny_Name (wpAny_loadName_local I.ok.kind hk hn hm fin) hd
  · rcases hk with hk | hk
    · exact wpAny_Name (wpAny_loadName_cell I.ok.kind hk hc hcell fin) hd
    · exact wpAny_Name (wpAny_loadName_free I.ok.kind hk hc hcell fin hcd) hd
theorem pe_int {i j pos} : PE X (.Constant (.int i) j pos) (tC (.int i)) := fun _ _ _ H _ I h => wpAny_Constant_int ⟨.int i, H, I.tok _, ⟨_, rfl⟩, h⟩
theorem pe_bl {b j pos} : PE X (.Constant (.bool b) j pos) (tC (.bl b)) := fun _ _ _ H _ I h => Constant_bool ⟨.bl b, H, I, rfl, h⟩
theorem pe_non {j pos} : PE X (.Constant .none j pos) (tC .non) := fun _ _ _ H _ I h => Constant_none ⟨.non, H, I, rfl, h⟩
noncomputable def Gl (X : Cx) (x : Str) : Prop := X.env.kindOf x = some .globalImplicit
theorem ld_glob {E : Value → Shared → Prop} {pins : List (Addr × Obj)} {s : Shared} {σ : St} {H : Hp} {x : Str} {u : Value} {pos : Pos} {Q : Value → Shared → Prop} (I : Inv X pins σ H s) (hg : Gl X x) (hm : X.mg x = some u) (h : Q u s)
    (hd : (x == ("__debug__" : Str)) = false := by decide) : wpAny (model X.prog X.w) X.A (eval (.Name x pos) X.env) Q E s :=
  Calls.Name_function_global I.ok.kind hg (Calls.loadGlobal_global (by rw [I.ok.glob]; exact I.mod.glob.keeps I.bk) hm h) hd
theorem ld_blt {E : Value → Shared → Prop} {pins : List (Addr × Obj)} {s : Shared} {σ : St} {H : Hp} {x : Str} {u : Value} {pos : Pos} {Q : Value → Shared → Prop} (I : Inv X pins σ H s) (hg : Gl X x) (hm : X.mg x = none) (hv : bootBuiltins x = some u) (h : Q u s)
    (hn : x ≠ "__name__" := by decide) (hd : (x == ("__debug__" : Str)) = false := by decide) : wpAny (model X.prog X.w) X.A (eval (.Name x pos) X.env) Q E s := by
  obtain ⟨mb, h1, h2⟩ := I.mod.blt
  exact Calls.Name_function_global I.ok.kind hg (Calls.loadGlobal_builtin (by rw [I.ok.glob]; exact I.mod.glob.keeps I.bk) hm (by rw [I.ok.blt]; exact h1.keeps I.bk) ((h2 x hn).trans hv) h) hd
theorem pe_glob {x : Str} {v : V} {u : Value} {pos : Pos} (hg : Gl X x) (hm : X.mg x = some u) (r : RelV v u) (hd : (x == ("__debug__" : Str)) = false := by decide) : PE X (.Name x pos) (tC v) :=
  fun _ _ _ H _ I h => ld_glob I hg hm ⟨v, H, I, r, h⟩ hd
theorem pe_bltn {x : Str} {v : V} {u : Value} {pos : Pos} (hg : Gl X x) (hm : X.mg x = none) (hv : bootBuiltins x = some u) (r : RelV v u) (hn : x ≠ "__name__" := by decide) (hd : (x == ("__debug__" : Str)) = false := by decide) : PE X (.Name x pos) (tC v) :=
  fun _ _ _ H _ I h => ld_blt I hg hm hv ⟨v, H, I, r, h⟩ hn hd

variable {a b : Expr} {ta tb : TE} {pos : Pos}
noncomputable def tB (t : TE) : TT := fun σ H Q => t σ H fun x H1 => ∃ c, x = .bl c ∧ Q c H1
theorem pt_val {e : Expr} {t : TE} (h : PE X e t) (he : ∀ whole, isTrue e X.env whole = (do let v ← whole; standAt e.pos; holding [v] (truthy v)) := by intro _; rfl) : PT X e (tB t) := by
  intro pins s σ H Q I hw
  refine isTrue_plain (thn (h pins s σ H _ I hw) fun v s1 ⟨x, H1, I1, r1, q1⟩ => ?_) (he _)
  obtain ⟨d, rfl, q⟩ := q1
  cases r1
  exact wpAny_truthy_bool ⟨H1, I1, q⟩

variable {tA tB' : TT} {rest : List Expr}
noncomputable def tAnd (t u : TT) : TT := fun σ H Q => t σ H fun c H1 => if c = true then u σ H1 Q else Q false H1
noncomputable def tOr (t u : TT) : TT := fun σ H Q => t σ H fun c H1 => if c = true then Q true H1 else u σ H1 Q
noncomputable def tNot (t : TT) : TT := fun σ H Q => t σ H fun c H1 => Q (!c) H1
theorem pw_and1 (ha : PT X a tA) : PW X (.BoolOp .And [a] pos) tA := by
  intro wh pins s σ H Q I h
  refine isTrue_and (thn (ha pins s σ H Q I h) fun c s1 e => ?_)
  cases c with
  | true => exact isTrue_and_nil e
  | false => exact e
theorem pw_or1 (ha : PT X a tA) : PW X (.BoolOp .Or [a] pos) tA := by
  intro wh pins s σ H Q I h
  refine isTrue_or (thn (ha pins s σ H Q I h) fun c s1 e => ?_)
  cases c with
  | false => exact isTrue_or_nil e
  | true => exact e
theorem pw_and (ha : PT X a tA) (hb : PW X (.BoolOp .And (b :: rest) pos) tB') : PW X (.BoolOp .And (a :: b :: rest) pos) (tAnd tA tB') := by
  intro wh pins s σ H Q I h
  refine isTrue_and (thn (ha pins s σ H _ I h) fun c s1 ⟨H1, I1, q1⟩ => ?_)
  cases c with
  | true => exact hb wh pins s1 σ H1 Q I1 q1
  | false => exact ⟨H1, I1, q1⟩
theorem pw_or (ha : PT X a tA) (hb : PW X (.BoolOp .Or (b :: rest) pos) tB') : PW X (.BoolOp .Or (a :: b :: rest) pos) (tOr tA tB') := by
  intro wh pins s σ H Q I h
  refine isTrue_or (thn (ha pins s σ H _ I h) fun c s1 ⟨H1, I1, q1⟩ => ?_)
  cases c with
  | true => exact ⟨H1, I1, q1⟩
  | false => exact hb wh pins s1 σ H1 Q I1 q1
theorem pt_not (ha : PT X a tA) : PT X (.UnaryOp .Not a pos) (tNot tA) := by
  intro pins s σ H Q I h
  exact isTrue_not (ha pins s σ H (fun c H1 => Q (!c) H1) I h)
noncomputable def tAndV (ta tb : TE) : TE := fun σ H Q => ta σ H fun x H1 => ∃ c, x = .bl c ∧ if c = true then tb σ H1 Q else Q (.bl false) H1
noncomputable def tNotV (ta : TE) : TE := fun σ H Q => ta σ H fun x H1 => ∃ c, x = .bl c ∧ Q (.bl (!c)) H1
theorem pe_one {op} {t : TE} (h : PE X a t) : PE X (.BoolOp op [a] pos) t := fun pins s σ H Q I hw => BoolOp_one (h pins s σ H Q I hw)
theorem pe_and (ha : PE X a ta) (hb : PE X (.BoolOp .And (b :: rest) pos) tb) : PE X (.BoolOp .And (a :: b :: rest) pos) (tAndV ta tb) := by
  intro pins s σ H Q I h
  refine BoolOp_and (thn (ha pins s σ H _ I h) fun v s1 ⟨x, H1, I1, r1, q1⟩ => ?_)
  obtain ⟨c, rfl, q1⟩ := q1
  cases r1
  refine wpAny_truthy_bool ?_
  cases c with
  | true => exact hb pins s1 σ H1 Q I1 q1
  | false => exact ⟨.bl false, H1, I1, rfl, q1⟩
theorem pe_not (ha : PE X a ta) : PE X (.UnaryOp .Not a pos) (tNotV ta) := by
  intro pins s σ H Q I h
  refine UnaryOp_ (thn (ha pins s σ H _ I h) fun v s1 ⟨x, H1, I1, r1, q1⟩ => ?_)
  obtain ⟨c, rfl, q1⟩ := q1
  cases r1
  exact not_of (wpAny_truthy_bool ⟨.bl (!c), H1, I1, rfl, q1⟩)
noncomputable def tIf (t : TT) (ta tb : TE) : TE := fun σ H Q => t σ H fun c H1 => if c = true then ta σ H1 Q else tb σ H1 Q
theorem pe_ifExp {c : Expr} (hc : PT X c tA) (ha : PE X a ta) (hb : PE X b tb) : PE X (.IfExp c a b pos) (tIf tA ta tb) := by
  intro pins s σ H Q I h
  refine wpAny_IfExp (thn (hc pins s σ H _ I h) fun d s1 ⟨H1, I1, q1⟩ => ?_)
  cases d with
  | true => exact ha pins s1 σ H1 Q I1 q1
  | false => exact hb pins s1 σ H1 Q I1 q1
end
end L2

namespace L2
open PySem PySem.Spec PyProof.Rows

noncomputable def SqL (K : PySem.W.Frag) (H : Hp) (a : Addr) (xs : List V) : Prop :=
  Rd H a (.lst xs) ∨
    ∃ (o : Obj) (its : Array Value) (n : Nat), K.lookup a = some o ∧ o.cls = .type "list" ∧ o.dict = none ∧ o.data = .seq its n ∧ its.size ≤ sizeLine ∧ Vals xs its.toList
noncomputable def SqT (K : PySem.W.Frag) (H : Hp) (a : Addr) (xs : List V) : Prop :=
  Rd H a (.tup xs) ∨
    ∃ (o : Obj) (its : Array Value) (n : Nat), K.lookup a = some o ∧ o.cls = .type "tuple" ∧ o.data = .seq its n ∧ its.size ≤ sizeLine ∧ Vals xs its.toList
noncomputable def absV : Value → Option V
  | .none => some .non
  | .bool b => some (.bl b)
  | .int i _ => some (.int i)
  | .str x _ => some (.str x)
  | .bytes b _ => some (.byt b)
  | .float b _ => some (.flt b)
  | .ref a => some (.ref a)
  | .type n => some (.ty n)
  | _ => none
theorem RelV.abs {x : V} {u : Value} (r : RelV x u) : absV u = some x := by
  cases x with
  | non => cases r; rfl
  | bl _ => cases r; rfl
  | int _ => obtain ⟨t, rfl⟩ := r; rfl
  | str _ => obtain ⟨t, rfl⟩ := r; rfl
  | byt _ => obtain ⟨t, rfl⟩ := r; rfl
  | flt _ => obtain ⟨t, rfl⟩ := r; rfl
  | ref _ => cases r; rfl
  | ty _ => cases r; rfl
theorem RelV.inj {x y : V} {u : Value} (r : RelV x u) (q : RelV y u) : x = y := Option.some.inj (r.abs.symm.trans q.abs)
theorem Vals.inj : ∀ {xs ys : List V} {us : List Value}, Vals xs us → Vals ys us → xs = ys
  | _, _, _, .nil, .nil => rfl
  | _, _, _, .cons r t, .cons r' t' => by rw [r.inj r', Vals.inj t t']
section
variable {X : Cx} {pins : List (Addr × Obj)} {σ : St} {H : Hp} {s : Shared} {a : Addr} {xs ys : List V}
theorem SqL.of {K : PySem.W.Frag} (h : H a = some (.lst xs)) : SqL K H a xs := .inl (.inl h)
theorem SqT.of {K : PySem.W.Frag} (h : H a = some (.tup xs)) : SqT K H a xs := .inl (.inl h)
theorem Inv.list (I : Inv X pins σ H s) (h : SqL X.K H a xs) : ∃ its : List Value, Vals xs its ∧ PlainL s.heap a its.toArray ∧ xs.length ≤ sizeLine := by
  rcases h with h | ⟨o, its, n, hk, hc, hd, hs, hz, r⟩
  · obtain ⟨z, its, n, r, e⟩ := h.ok I.hok
    exact ⟨its, r, ⟨_, n, e, rfl, rfl, rfl⟩, z⟩
  · refine ⟨its.toList, r, ⟨o, n, I.kIn a o hk, hc, hd, by simpa using hs⟩, ?_⟩
    have e := r.length
    simp only [Array.length_toList] at e
    omega
theorem Inv.tuple (I : Inv X pins σ H s) (h : SqT X.K H a xs) : ∃ its : List Value, Vals xs its ∧ IsTup s.heap a its.toArray ∧ xs.length ≤ sizeLine := by
  rcases h with h | ⟨o, its, n, hk, hc, hs, hz, r⟩
  · obtain ⟨z, its, r, p⟩ := h.ok I.hok
    exact ⟨its, r, p, z⟩
  · refine ⟨its.toList, r, ⟨o, I.kIn a o hk, hc, n, by simpa using hs⟩, ?_⟩
    have e := r.length
    simp only [Array.length_toList] at e
    omega
theorem Inv.list_inj (I : Inv X pins σ H s) (h : SqL X.K H a xs) (h' : SqL X.K H a ys) : xs = ys := by
  obtain ⟨its, r, ⟨o, n, e, _, _, d⟩, _⟩ := I.list h
  obtain ⟨its', r', ⟨o', n', e', _, _, d'⟩, _⟩ := I.list h'
  rw [e] at e'; cases e'
  rw [d] at d'
  injection d' with d1 _
  have : its = its' := by simpa using congrArg Array.toList d1
  subst this
  exact r.inj r'
end

noncomputable abbrev Cx.wish (X : Cx) (E : Value → Shared → Prop) : Cx := { X with xe := E }
noncomputable abbrev Cx.nox (X : Cx) : Cx := X.wish fun _ _ => False
theorem Cx.Ok.wish {X : Cx} (ok : X.Ok) (E : Value → Shared → Prop) : (X.wish E).Ok :=
  ⟨ok.mod, ok.kind, ok.glob, ok.blt, ok.above, ok.inj, ok.has, ok.cab, ok.hd, ok.frames, ok.stk, ok.exf, ok.bs, ok.bsz, ok.noex, ok.exfs, ok.funs, ok.frf⟩
theorem Cx.Ok.unwish {X : Cx} {E : Value → Shared → Prop} (ok : (X.wish E).Ok) : X.Ok :=
  ⟨ok.mod, ok.kind, ok.glob, ok.blt, ok.above, ok.inj, ok.has, ok.cab, ok.hd, ok.frames, ok.stk, ok.exf, ok.bs, ok.bsz, ok.noex, ok.exfs, ok.funs, ok.frf⟩
section
variable {X : Cx} {pins : List (Addr × Obj)} {σ : St} {H : Hp} {s : Shared} {E : Value → Shared → Prop}
theorem Inv.wish (I : Inv X pins σ H s) (E : Value → Shared → Prop) : Inv (X.wish E) pins σ H s := ⟨I.ok.wish E, I.os, I.bare, I.base, I.loc, I.cell, I.free, I.freeC, I.pin, I.hok, I.len⟩
theorem Inv.unwish (I : Inv (X.wish E) pins σ H s) : Inv X pins σ H s := ⟨I.ok.unwish, I.os, I.bare, I.base, I.loc, I.cell, I.free, I.freeC, I.pin, I.hok, I.len⟩
theorem SP.unwish {D : Ends} {f : Flow} {s' : Shared} (h : SP (X.wish E) pins D f s') : SP X pins D f s' := by
  cases f with
  | next => obtain ⟨σ', H', I, q⟩ := h; exact ⟨σ', H', I.unwish, q⟩
  | brk => obtain ⟨σ', H', I, q⟩ := h; exact ⟨σ', H', I.unwish, q⟩
  | cont => obtain ⟨σ', H', I, q⟩ := h; exact ⟨σ', H', I.unwish, q⟩
  | ret u => obtain ⟨v, σ', H', I, r, q⟩ := h; exact ⟨v, σ', H', I.unwish, r, q⟩
theorem PE.nox {e : Expr} {t : TE} (h : PE X.nox e t) : PE X e t := fun pins s σ H Q I hw =>
  wpAny_mono (h pins s σ H Q (I.wish _) hw) (fun _ _ ⟨v, H', I', r, q⟩ => ⟨v, H', I'.unwish, r, q⟩) fun _ _ z => False.elim z
theorem PT.nox {e : Expr} {t : TT} (h : PT X.nox e t) : PT X e t := fun pins s σ H Q I hw =>
  wpAny_mono (h pins s σ H Q (I.wish _) hw) (fun _ _ ⟨H', I', q⟩ => ⟨H', I'.unwish, q⟩) fun _ _ z => False.elim z
theorem PSs.nox {st : List Stmt} {t : TS} (h : PSs X.nox st t) : PSs X st t := fun pins s σ H D I hw =>
  wpAny_mono (h pins s σ H D (I.wish _) hw) (fun _ _ q => q.unwish) fun _ _ z => False.elim z
end

section
variable {X : Cx} {st : Stmt} {rest : List Stmt} {t u : TS} {e : Expr} {te : TE} {pos : Pos}
noncomputable def tNext : TS := fun D σ H => D.nx σ H
noncomputable def tSeq (t u : TS) : TS := fun D σ H => t { D with nx := u D } σ H
theorem pss_nil : PSs X [] tNext := fun _ _ σ H _ I h => wpAny_execs_nil ⟨σ, H, I, h⟩
theorem pss_cons (h1 : PS X st t) (h2 : PSs X rest u) : PSs X (st :: rest) (tSeq t u) := by
  intro pins s σ H D I h
  refine wpAny_execs_cons (thn (h1 pins s σ H { D with nx := u D } I h) fun f s1 q => ?_)
  cases f with
  | next =>
    obtain ⟨σ', H', I', q⟩ := q
    exact h2 pins s1 σ' H' D I' q
  | ret v => exact q
  | brk => exact q
  | cont => exact q
theorem pss_one (h1 : PS X st t) : PSs X [st] t := by
  intro pins s σ H D I h
  refine wpAny_execs_cons (thn (h1 pins s σ H D I h) fun f s1 q => ?_)
  cases f with
  | next => exact wpAny_execs_nil q
  | ret v => exact q
  | brk => exact q
  | cont => exact q
theorem Inv.quiet {pins : List (Addr × Obj)} {σ : St} {H : Hp} {s : Shared} (I : Inv X pins σ H s) : interactive X.env = false := by simp [interactive, I.ok.kind]
noncomputable def tDrop (te : TE) : TS := fun D σ H => te σ H fun _ H1 => D.nx σ H1
theorem ps_expr (he : PE X e te) (hs : swapsWith e none pos.line X.env = pure false := by rfl) : PS X (.Expr e pos) (tDrop te) := by
  intro pins s σ H D I h
  exact wpAny_Expr_any (thn (he pins s σ H _ I h) fun v s1 ⟨x, H1, I1, r1, q1⟩ => ⟨σ, H1, I1, q1⟩) I.quiet hs
noncomputable def tRet (te : TE) : TS := fun D σ H => te σ H D.rt
theorem ps_ret (he : PE X e te) : PS X (.Return (some e) pos) (tRet te) := by
  intro pins s σ H D I h
  exact wpAny_Return_some (thn (he pins s σ H _ I h) fun v s1 ⟨x, H1, I1, r1, q1⟩ => ⟨x, σ, H1, I1, r1, q1⟩)
noncomputable def tIfS (c : TT) (t u : TS) : TS := fun D σ H => c σ H fun b H1 => if b = true then t D σ H1 else u D σ H1
theorem ps_if {c : Expr} {a b : List Stmt} {tc : TT} (hc : PT X c tc) (ha : PSs X a t) (hb : PSs X b u) : PS X (.If c a b pos) (tIfS tc t u) := by
  intro pins s σ H D I h
  refine wpAny_If (thn (hc pins s σ H _ I h) fun d s1 ⟨H1, I1, q1⟩ => ?_)
  cases d with
  | true => exact ha pins s1 σ H1 D I1 q1
  | false => exact hb pins s1 σ H1 D I1 q1
noncomputable def tNever : TS := fun _ _ _ => False
theorem ps_never : PS X st tNever := fun _ _ _ _ _ _ h => h.elim
end

noncomputable abbrev TG := V → St → Hp → (St → Hp → Prop) → Prop
noncomputable abbrev TGs := List V → St → Hp → (St → Hp → Prop) → Prop
noncomputable def PG (X : Cx) (target : Expr) (t : TG) : Prop :=
  ∀ (pins : List (Addr × Obj)) (s : Shared) (σ : St) (H : Hp) (v : V) (u : Value) (Q : St → Hp → Prop), Inv X pins σ H s → RelV v u → t v σ H Q →
    wpAny (model X.prog X.w) X.A (assign target X.env u) (fun _ s' => ∃ σ' H', Inv X pins σ' H' s' ∧ Q σ' H') X.xe s
noncomputable def PGs (X : Cx) (ts : List Expr) (t : TGs) : Prop :=
  ∀ (pins : List (Addr × Obj)) (s : Shared) (σ : St) (H : Hp) (vs : List V) (us : List Value) (Q : St → Hp → Prop), Inv X pins σ H s → Vals vs us → t vs σ H Q →
    wpAny (model X.prog X.w) X.A (assignInOrder ((assignEach ts X.env).map (·.2)) us) (fun _ s' => ∃ σ' H', Inv X pins σ' H' s' ∧ Q σ' H') X.xe s
noncomputable abbrev TSet := V → V → V → Hp → (Hp → Prop) → Prop
noncomputable def PSet (X : Cx) (t : TSet) : Prop :=
  ∀ (pins : List (Addr × Obj)) (s : Shared) (σ : St) (H : Hp) (o i v : V) (ov iv u : Value) (Q : Hp → Prop), Inv X pins σ H s → RelV o ov → RelV i iv → RelV v u → t o i v H Q →
    wpAny (model X.prog X.w) X.A (setItem ov iv u) (fun _ s' => ∃ H', Inv X pins σ H' s' ∧ Q H') X.xe s
noncomputable abbrev TIp := V → V → Hp → VK → Prop
noncomputable def PIp (X : Cx) (op : Operator) (t : TIp) : Prop :=
  ∀ (pins : List (Addr × Obj)) (s : Shared) (σ : St) (H : Hp) (x y : V) (v u : Value) (Q : VK), Inv X pins σ H s → RelV x v → RelV y u → t x y H Q →
    wpAny (model X.prog X.w) X.A (inplaceOp op v u) (EP X pins σ Q) X.xe s
section
variable {X : Cx} {pos : Pos}
noncomputable def gName (i : Nat) : TG := fun v σ H Q => Q (σ.set i (some v)) H
theorem pg_name {i : Nat} {x : Str} (hN : X.N.Nodup) (hi : X.N[i]? = some x) (hx : Loc X.env.scope x) (hf : X.fn x = true ∨ X.env.scope.names.lookup x = some .local := by first | exact .inl rfl | exact .inr rfl | assumption) : PG X (.Name x pos) (gName i) := by
  intro pins s σ H v u Q I r h
  exact wpAny_assign_Name (store_ok I hN hi hx r (fun s' I' => ⟨_, H, I', h⟩) hf)
noncomputable def gNil : TGs := fun vs σ H Q => vs = [] ∧ Q σ H
noncomputable def gCons (t : TG) (u : TGs) : TGs := fun vs σ H Q => ∃ v r, vs = v :: r ∧ t v σ H fun σ' H' => u r σ' H' Q
theorem pgs_nil : PGs X [] gNil := by
  intro pins s σ H vs us Q I r h
  obtain ⟨e, h⟩ := h
  subst e
  cases r
  exact assignInOrder_nil ⟨σ, H, I, h⟩
theorem pgs_cons {e : Expr} {es : List Expr} {t : TG} {u : TGs} (h1 : PG X e t) (h2 : PGs X es u)
    (hs : (assignEach (e :: es) X.env).map (·.2) = assign e X.env :: (assignEach es X.env).map (·.2) := by rfl) : PGs X (e :: es) (gCons t u) := by
  intro pins s σ H vs us Q I r h
  obtain ⟨v, vr, e1, h⟩ := h
  subst e1
  cases r with
  | cons r rr =>
    rw [hs]
    refine assignInOrder_cons (thn (h1 pins s σ H _ _ _ I r h) fun _ s1 ⟨σ1, H1, I1, q1⟩ => ?_)
    exact h2 pins s1 σ1 H1 _ _ Q I1 rr q1
noncomputable def gTup (K : PySem.W.Frag) (n : Nat) (t : TGs) : TG := fun v σ H Q => ∃ a xs, v = .ref a ∧ SqT K H a xs ∧ xs.length = n ∧ t xs σ H Q
theorem pg_tup {es : List Expr} {k : Nat} {t : TGs} {n : Nat} (hc : X.calm = true) (h : PGs X es t)
    (hn : (assignEach es X.env).length = n := by rfl) (hst : (assignEach es X.env).findIdx? (·.1) = none := by rfl) : PG X (.Tuple es k pos) (gTup X.K n t) := by
  intro pins s σ H v u Q I r hw
  obtain ⟨a, xs, e1, hq, hl, hw⟩ := hw
  subst e1
  cases r
  obtain ⟨its, rv, ht, hz⟩ := I.tuple hq
  refine assign_Tuple_tuple (I.ok.hd hc) ht (by simp [hn, ← hl, rv.length]) hst fun h' hx => ?_
  have I1 : Inv X pins σ H { s with heap := h' } := I.kept (t' := s.toks) fun b o e => hx b o (Nat.ne_of_lt (Heap.lt_size e)) e
  exact h pins _ σ H xs _ Q I1 (by simpa using rv) hw
noncomputable def gSub (to ti : TE) (t : TSet) : TG := fun v σ H Q => to σ H fun o H1 => ti σ H1 fun i H2 => t o i v H2 fun H3 => Q σ H3
theorem pg_sub {o i : Expr} {to ti : TE} {t : TSet} (ho : PE X o to) (hi : PE X i ti) (hs : PSet X t)
    (ha : ∀ v, assign (.Subscript o i pos) X.env v = (do
      let ov ← holding [v] (eval o X.env)
      let iv ← holding [v, ov] (eval i X.env)
      standAt pos
      holding [v, ov, iv] (setItem ov iv v)
      release [v, ov, iv] []) := by intro _; rfl) : PG X (.Subscript o i pos) (gSub to ti t) := by
  intro pins s σ H v u Q I r h
  rw [ha]
  refine wpAny_bind (wpAny_holding (thn (ho pins s σ H _ I h) fun ov s1 ⟨x, H1, I1, r1, q1⟩ => ?_))
  refine wpAny_bind (wpAny_holding (thn (hi pins s1 σ H1 _ I1 q1) fun iv s2 ⟨y, H2, I2, r2, q2⟩ => ?_))
  refine wpAny_bind (wpAny_standAt (wpAny_bind (wpAny_holding (thn (hs pins s2 σ H2 x y v ov iv u _ I2 r1 r2 r q2) fun _ s3 ⟨H3, I3, q3⟩ => ?_))))
  exact wpAny_release ⟨σ, H3, I3, q3⟩
noncomputable def tAsg (te : TE) (g : TG) : TS := fun D σ H => te σ H fun x H1 => g x σ H1 D.nx
theorem ps_asg {tg e : Expr} {te : TE} {g : TG} (he : PE X e te) (hg : PG X tg g) (hs : swapsWithSole [tg] e pos.line X.env = pure false := by rfl) (hw : swappedStores [tg] e X.env = pure none := by rfl)
    (h1 : (assignEach [tg] X.env).map (·.2) = [assign tg X.env] := by rfl) : PS X (.Assign [tg] e pos) (tAsg te g) := by
  intro pins s σ H D I h
  refine wpAny_Assign_stores (thn (he pins s σ H _ I h) fun v s1 ⟨x, H1, I1, r1, q1⟩ => ?_) hs hw
  rw [h1]
  exact thn (hg pins s1 σ H1 x v _ I1 r1 q1) fun _ s2 q => q
theorem ps_set {i : Nat} {x : Str} {e : Expr} {te : TE} {pos' : Pos} (hN : X.N.Nodup) (hi : X.N[i]? = some x) (hx : Loc X.env.scope x) (he : PE X e te) (hs : swapsWith e (some (.Name x pos')) pos.line X.env = pure false := by rfl) (hf : X.fn x = true ∨ X.env.scope.names.lookup x = some .local := by first | exact .inl rfl | exact .inr rfl | assumption) :
    PS X (.Assign [.Name x pos'] e pos) (tAsg te (gName i)) := by
  intro pins s σ H D I h
  refine wpAny_Assign_Name (thn (he pins s σ H _ I h) fun v s1 ⟨y, H1, I1, r1, q1⟩ => ?_) hs
  exact store_ok I1 hN hi hx r1 (fun s2 I2 => ⟨_, H1, I2, q1⟩) hf
noncomputable def tPar (i j : Nat) (ta : TA) : TS := fun D σ H => ta σ H fun vs H1 => ∃ v w, vs = [v, w] ∧ D.nx ((σ.set i (some v)).set j (some w)) H1
theorem ps_par {i j : Nat} {x y : Str} {a b : Expr} {ta : TA} {px py pt : Pos} {kt k2 pt2} (hc : X.calm = true) (hN : X.N.Nodup) (hi : X.N[i]? = some x) (hj : X.N[j]? = some y) (hij : i ≠ j)
    (hx : X.env.scope.names.lookup x = some .local) (hy : X.env.scope.names.lookup y = some .local) (ha : PA X [a, b] ta)
    (hw : swappedStores [.Tuple [.Name x px, .Name y py] kt pt] (.Tuple [a, b] k2 pt2) X.env = pure (some [x, y]))
    (hs : swapsWithSole [.Tuple [.Name x px, .Name y py] kt pt] (.Tuple [a, b] k2 pt2) pos.line X.env = pure false := by rfl) :
    PS X (.Assign [.Tuple [.Name x px, .Name y py] kt pt] (.Tuple [a, b] k2 pt2) pos) (tPar i j ta) := by
  intro pins s σ H D I h
  rw [exec_Assign_arm]
  refine wpAny_bind (wpAny_standAt ?_)
  rw [hs]
  refine wpAny_bind (wpAny_pure ?_)
  rw [if_neg (by decide)]
  refine wpAny_bind (Tuple_ (thn (ha _ pins s σ H _ I h) fun us s1 ⟨vs, H1, I1, r1, q1⟩ => ?_))
  obtain ⟨v, w, e1, q1⟩ := q1
  subst e1
  obtain ⟨u1, u2, rfl, rv, rw'⟩ : ∃ u1 u2, us = [u1, u2] ∧ RelV v u1 ∧ RelV w u2 := by
    cases r1 with
    | cons p q =>
      cases q with
      | cons p' q' =>
        cases q'
        exact ⟨_, _, rfl, p, p'⟩
  refine wpAny_newObj_type ?_ (by show 2 ≤ sizeLine; decide)
  have I2 : Inv X pins σ H1 { s1 with heap := s1.heap.push { cls := .type "tuple", data := .seq [u1, u2].toArray } } := I1.kept (t' := s1.toks) fun b o e => Heap.get?_push_of_some _ e
  rw [hw]
  refine wpAny_bind (wpAny_pure ?_)
  show wpAny (model X.prog X.w) X.A (do rule "assign.swapped-stores"; let items ← unpackItems (.ref s1.heap.objs.size) 2 none; assignInOrder [fun v => bindName X.env y v, fun v => bindName X.env x v] items.reverse; pure Flow.next) _ _ _
  refine wpAny_bind (wpAny_rule (wpAny_bind (unpackItems_tuple (items := #[u1, u2]) (I.ok.hd hc) (IsTup.new s1.heap _) fun h' hx' => ?_)))
  have I3 := I2.kept (h' := h') (t' := s1.toks) fun b o e => hx' b o (Nat.ne_of_lt (Heap.lt_size e)) e
  show wpAny _ _ (assignInOrder [fun v => bindName X.env y v, fun v => bindName X.env x v] [u2, u1] >>= fun _ => pure Flow.next) _ _ _
  refine wpAny_bind (assignInOrder_cons (wpAny_bindName (store_ok I3 hN hj (.inl hy) rw' (fun s2 I4 => ?_) (.inr hy))))
  refine assignInOrder_cons (wpAny_bindName (store_ok I4 hN hi (.inl hx) rv (fun s3 I5 => assignInOrder_nil (wpAny_pure ?_)) (.inr hx)))
  rw [List.set_comm _ _ (Ne.symm hij)] at I5
  exact ⟨_, H1, I5, q1⟩
noncomputable def tAug (i : Nat) (te : TE) (ti : TIp) : TS := fun D σ H => ∃ x, σ[i]? = some (some x) ∧ te σ H fun y H1 => ti x y H1 fun z H2 => D.nx (σ.set i (some z)) H2
theorem ps_aug {i : Nat} {x : Str} {e : Expr} {te : TE} {op : Operator} {ti : TIp} {pos' : Pos} (hN : X.N.Nodup) (hi : X.N[i]? = some x) (hx : Loc X.env.scope x) (he : PE X e te) (ho : PIp X op ti) (hf : X.fn x = true ∨ X.env.scope.names.lookup x = some .local := by first | exact .inl rfl | exact .inr rfl | assumption) :
    PS X (.AugAssign (.Name x pos') op e pos) (tAug i te ti) := by
  intro pins s σ H D I h
  obtain ⟨v, e1, h⟩ := h
  obtain ⟨m, hn, hl⟩ := I.loc
  have vis : Vis X.env.scope x := by rcases hx with k | k; exact .inl k; exact .inr (.inl k)
  obtain ⟨u, r, l⟩ := hl i x v hi e1 vis
  refine wpAny_AugAssign_Name ?_
  have go : wpAny (model X.prog X.w) X.A (eval e X.env) (fun w s₂ => wpAny (model X.prog X.w) X.A (inplaceOp op u w) (fun r s₃ => wpAny (model X.prog X.w) X.A (storeName X.env x r) (fun _ => SP X pins D .next) X.xe s₃) X.xe s₂) X.xe s := by
    refine thn (he pins s σ H _ I h) fun w s1 ⟨y, H1, I1, r1, q1⟩ => ?_
    refine thn (ho pins s1 σ H1 v y u w _ I1 r r1 q1) fun z s2 ⟨zv, H2, I2, r2, q2⟩ => ?_
    exact store_ok I2 hN hi hx r2 (fun s3 I3 => ⟨_, H2, I3, q2⟩) hf
  rcases l with ⟨hk, hm⟩ | ⟨hk, c, hc, hcell⟩
  · exact wpAny_loadName_local I.ok.kind hk hn hm go
  · rcases hk with hk | hk
    · exact wpAny_loadName_cell I.ok.kind hk hc hcell go
    · rcases hx with k | k
      · have : X.env.scope.names.lookup x = some .free := hk
        rw [k] at this; cases this
      · have : X.env.scope.names.lookup x = some .free := hk
        rw [k] at this; cases this
noncomputable def ipI (f : Int → Int → Int) : TIp := fun x y H Q => ∃ i j, x = .int i ∧ y = .int j ∧ Q (.int (f i j)) H
theorem ip_add : PIp X .Add (ipI fun i j => i + j) := by
  intro pins s σ H x y v u Q I r1 r2 h
  obtain ⟨i, j, e1, e2, q⟩ := h
  subst e1; subst e2
  obtain ⟨t, rfl⟩ := r1
  obtain ⟨t', rfl⟩ := r2
  exact iadd_int ⟨.int _, H, I.tok _, ⟨_, rfl⟩, q⟩
end

section
variable {X : Cx} {pos : Pos}
noncomputable def tWhile (c : TT) (tb : TS) : TS := fun D σ H => ∃ W : Nat → St → Hp → Prop, (∃ m, W m σ H) ∧ ∀ m σ H, W m σ H →
  c σ H fun b H1 => if b = true then ∃ N : St → Hp → Prop, (∀ σ' H', N σ' H' → ∃ m', m' < m ∧ W m' σ' H') ∧ tb { D with nx := N, ct := N, bk := D.nx } σ H1 else D.nx σ H1
theorem ps_while {c : Expr} {body : List Stmt} {tc : TT} {tb : TS} (hp : PassesOwn (model X.prog X.w) X.A X.env X.xe) (hc : PT X c tc) (hb : PSs X body tb) : PS X (.While c body [] pos) (tWhile tc tb) := by
  intro pins s σ H D I h
  obtain ⟨W, ⟨m0, w0⟩, turn⟩ := h
  refine wpAny_While (codeAny_whileLoop (fun n s' => ∃ σ' H', Inv X pins σ' H' s' ∧ W n σ' H') ?_ m0 ⟨σ, H, I, w0⟩)
  rintro n s1 ⟨σ1, H1, I1, w1⟩
  refine wpAny_passesOwn hp (thn (hc pins s1 σ1 H1 _ I1 (turn n σ1 H1 w1)) fun b s2 ⟨H2, I2, q2⟩ => ?_)
  cases b with
  | true =>
    obtain ⟨N, hN, q2⟩ := q2
    rw [if_pos rfl]
    refine wpAny_passesOwn hp (thn (hb pins s2 σ1 H2 _ I2 q2) fun f s3 q3 => ?_)
    cases f with
    | next =>
      obtain ⟨σ3, H3, I3, n3⟩ := q3
      obtain ⟨m', hm, w3⟩ := hN σ3 H3 n3
      exact ⟨m', hm, σ3, H3, I3, w3⟩
    | cont =>
      obtain ⟨σ3, H3, I3, n3⟩ := q3
      obtain ⟨m', hm, w3⟩ := hN σ3 H3 n3
      exact ⟨m', hm, σ3, H3, I3, w3⟩
    | brk => exact q3
    | ret v => exact q3
  | false =>
    rw [if_neg Bool.false_ne_true]
    exact wpAny_execs_nil ⟨σ1, H2, I2, q2⟩
end

structure It where
  go : Nat → Hp → Prop
  yld : Nat → Hp → V → Hp → Prop
  stop : Nat → Hp → Prop
noncomputable def FpOk (X : Cx) (pins : List (Addr × Obj)) (H : Hp) (b : Addr) : Prop :=
  H b = none ∧ b ≠ X.env.locals ∧ b ∉ X.fs ∧ (b ∈ X.ex ∨ X.s₀.heap.objs.size ≤ b) ∧ (∀ x c, X.env.cells.lookup x = some c → c ≠ b) ∧ ∀ p ∈ X.pn ++ pins, p.1 ≠ b
theorem Inv.fpOk {X : Cx} {pins : List (Addr × Obj)} {σ : St} {H H' : Hp} {s : Shared} {b : Addr} (I : Inv X pins σ H s) (hb : s.heap.objs.size ≤ b) (hn : H' b = none) : FpOk X pins H' b := by
  refine ⟨hn, Nat.ne_of_gt (Nat.lt_of_lt_of_le I.lt hb), I.nofs hb, .inr (Nat.le_trans I.sz hb), fun x c e z => ?_, fun p hp z => ?_⟩
  · obtain ⟨v, q⟩ := I.cell x c e
    exact absurd (Nat.lt_of_lt_of_le q.lt (by rw [z]; exact hb)) (Nat.lt_irrefl _)
  · exact absurd (Nat.lt_of_lt_of_le (Heap.lt_size (I.pin p hp).1) (by rw [z]; exact hb)) (Nat.lt_irrefl _)
structure Turn (P : Program) (w : World) (K : PySem.W.Frag) (tg : Expr) (J : It) (fp : List Addr) (it : Addr) (tn : Nat → Heap → Prop) : Prop where
  mem : it ∈ fp
  obj : ∀ i h, tn i h → ∀ b ∈ fp, ∃ o, h.get? b = some o ∧ ∀ v, o.data ≠ .cell v
  keep : ∀ i h h', tn i h → (∀ b ∈ fp, ∀ o, h.get? b = some o → h'.get? b = some o) → tn i h'
  item : ∀ (X : Cx), X.prog = P → X.w = w → X.K = K → X.calm = true → ∀ (i : Nat) (pins : List (Addr × Obj)) (s : Shared) (σ : St) (H : Hp) (E : Value → Shared → Prop), Inv X pins σ H s → (∀ b ∈ fp, FpOk X pins H b) → tn i s.heap → J.go i H →
    wpAny (model P w) X.A (pyNext (.ref it)) (fun r s1 => ∃ u, r = some u ∧
      wpAny (model P w) X.A (letOwnedTupleGo tg (.ref it) u) (fun _ s2 => ∃ x H', Inv X pins σ H' s2 ∧ RelV x u ∧ J.yld i H x H' ∧ tn (i + 1) s2.heap ∧ ∀ b ∈ fp, H' b = none) E s1) E s
  done : ∀ (X : Cx), X.prog = P → X.w = w → X.K = K → X.calm = true → ∀ (i : Nat) (pins : List (Addr × Obj)) (s : Shared) (σ : St) (H : Hp) (E : Value → Shared → Prop), Inv X pins σ H s → (∀ b ∈ fp, FpOk X pins H b) → tn i s.heap → J.stop i H →
    wpAny (model P w) X.A (pyNext (.ref it)) (fun r s1 => r = none ∧ Inv X pins σ H s1) E s
  self : ∀ (A : Around) (i : Nat) (s : Shared) (Q : Value → Shared → Prop) (E : Value → Shared → Prop), tn i s.heap → Q (.ref it) s → wpAny (model P w) A (pyIter (.ref it)) Q E s
noncomputable abbrev TI := St → Hp → (It → Hp → Prop) → Prop
noncomputable def PIE (X : Cx) (pins : List (Addr × Obj)) (σ : St) (tg : Expr) (R : It → Hp → Prop) (itv : Value) (s2 : Shared) : Prop :=
  ∃ (it : Addr) (fp : List Addr) (tn : Nat → Heap → Prop) (J : It) (H' : Hp), itv = .ref it ∧ Inv X pins σ H' s2 ∧ Turn X.prog X.w X.K tg J fp it tn ∧ tn 0 s2.heap ∧ (∀ b ∈ fp, FpOk X pins H' b) ∧ R J H'
noncomputable def PI (X : Cx) (tg iter : Expr) (wi : TI) : Prop :=
  ∀ (pins : List (Addr × Obj)) (s : Shared) (σ : St) (H : Hp) (R : It → Hp → Prop), Inv X pins σ H s → wi σ H R →
    wpAny (model X.prog X.w) X.A (eval iter X.env) (fun v s1 => wpAny (model X.prog X.w) X.A (pyIter v) (PIE X pins σ tg R) X.xe s1) X.xe s

theorem go_of {M : Model} {A : Around} {E : Value → Shared → Prop} {s : Shared} {tg : Expr} {it : Addr} {u : Value} {o : Obj} {n : String} {vs : Array Value} {Q : Unit → Shared → Prop} (ho : s.heap.get? it = some o) (hc : o.cls = .type n) (hd : o.data = .fields vs)
    (hn : ["enumerate", "zip", "dict_itemiterator", "dict_reverseitemiterator", "odict_iterator", "itertools.zip_longest", "itertools.pairwise"].contains n = false) (hQ : Q () s) : wpAny M A (letOwnedTupleGo tg (.ref it) u) Q E s := by
  unfold letOwnedTupleGo
  cases tg <;> first
    | exact wpAny_pure hQ
    | (cases u <;> first
        | exact wpAny_pure hQ
        | (refine wpAny_bind (wpAny_load ho ?_)
           rw [hc, hd]
           show wpAny M A (if (["enumerate", "zip", "dict_itemiterator", "dict_reverseitemiterator", "odict_iterator", "itertools.zip_longest", "itertools.pairwise"].contains n && vs[0]? == some (rawInt _)) = true then _ else _) Q E s
           rw [if_neg (by intro h; rw [hn, Bool.false_and] at h; cases h)]
           exact wpAny_pure hQ))

noncomputable def Itl (K : PySem.W.Frag) (a : Addr) : It :=
  ⟨fun i H => ∃ xs x, SqL K H a xs ∧ xs[i]? = some x, fun i H x H' => H' = H ∧ ∀ xs, SqL K H a xs → xs[i]? = some x, fun i H => ∃ xs, SqL K H a xs ∧ xs.length ≤ i⟩
noncomputable def Itr (lo : Int) (n : Nat) : It := ⟨fun i _ => i < n, fun i H x H' => H' = H ∧ x = .int (lo + i), fun i _ => n ≤ i⟩
theorem turn_list {P : Program} {w : World} {K : PySem.W.Frag} {tg : Expr} (a it : Addr) : Turn P w K tg (Itl K a) [it] it (fun i h => h.IsListIter it a i) where
  mem := by simp
  obj := fun i h st b hb => by
    have e : b = it := by simpa using hb
    subst e
    obtain ⟨o, e, c, d⟩ := st
    exact ⟨o, e, fun v z => by rw [d] at z; cases z⟩
  keep := fun i h h' st k => st.at fun o e => k it (by simp) o e
  item := by
    intro X hP hw hK hc i pins s σ H E I hf st hg
    subst hP hw hK
    obtain ⟨xs, x, hq, hx⟩ := hg
    obtain ⟨its, rv, p, hz⟩ := I.list hq
    obtain ⟨u, hu, ru⟩ := rv.get hx
    obtain ⟨f0, f1, f2, f3, f4, f5⟩ := hf it (by simp)
    refine wpAny_pyNext_list_item st p.isList (x := u) (by simpa using hu) fun h' st' sb => ?_
    have I1 : Inv X pins σ H { s with heap := h' } := I.turned (t' := s.toks) (fun b o hb e => (sb.2 b hb).trans e) f0 f1 f3 f4 f5
    obtain ⟨o, e, c, d⟩ := id st'
    exact ⟨u, rfl, go_of (s := { s with heap := h' }) e c d (by decide) ⟨x, H, I1, ru, ⟨rfl, fun ys hy => by rw [I.list_inj hy hq]; exact hx⟩, st', fun b hb => (hf b hb).1⟩⟩
  done := by
    intro X hP hw hK hc i pins s σ H E I hf st hg
    subst hP hw hK
    obtain ⟨xs, hq, hx⟩ := hg
    obtain ⟨its, rv, p, hz⟩ := I.list hq
    obtain ⟨f0, f1, f2, f3, f4, f5⟩ := hf it (by simp)
    have hl := rv.length
    exact wpAny_pyNext_list_end (I.ok.hd hc) st p.isList (by simp; omega) fun h' eb => ⟨rfl, I.turned (t' := s.toks) (fun b o hb e => eb b o hb e) f0 f1 f3 f4 f5⟩
  self := fun _ _ _ _ _ st h => wpAny_pyIter_listiter st h
theorem turn_range {P : Program} {w : World} {K : PySem.W.Frag} {tg : Expr} (it : Addr) (lo : Int) (n : Nat) : Turn P w K tg (Itr lo n) [it] it (fun i h => IsRangeIter h it (lo + (i : Nat) * 1) ((n : Int) - (i : Nat)) 1) where
  mem := by simp
  obj := fun i h st b hb => by
    have e : b = it := by simpa using hb
    subst e
    exact ⟨_, st, fun v z => by
      have z' : Data.fields _ = Data.cell v := z
      cases z'⟩
  keep := fun i h h' st k => k it (by simp) _ st
  item := by
    intro X hP hw hK hc i pins s σ H E I hf st hg
    subst hP hw hK
    obtain ⟨f0, f1, f2, f3, f4, f5⟩ := hf it (by simp)
    have W := Walks.range (prog := X.prog) (w := X.w) (I.ok.hd hc) it lo 1 n
    refine W.item i s _ _ hg st fun v h' tk hv st' kk => ?_
    obtain ⟨t, rfl⟩ := hv
    have I1 : Inv X pins σ H { s with heap := h', toks := tk } := I.turned (fun b o hb e => kk b o (by simpa using hb) e) f0 f1 f3 f4 f5
    refine ⟨_, rfl, go_of (s := { s with heap := h', toks := tk }) (n := "range_iterator") st' rfl rfl (by decide) ⟨.int (lo + i), H, I1, ⟨t, ?_⟩, ⟨rfl, rfl⟩, st', fun b hb => (hf b hb).1⟩⟩
    rw [Int.mul_one]
  done := by
    intro X hP hw hK hc i pins s σ H E I hf st hg
    subst hP hw hK
    obtain ⟨f0, f1, f2, f3, f4, f5⟩ := hf it (by simp)
    exact wpAny_pyNext_range_end (I.ok.hd hc) st (by have : n ≤ i := hg; omega) fun h' eb => ⟨rfl, I.turned (t' := s.toks) (fun b o hb e => eb b o hb e) f0 f1 f3 f4 f5⟩
  self := fun _ _ _ _ _ st h => wpAny_pyIter_rangeiter st h
end L2

namespace L2
open PySem PySem.Spec PyProof.Rows
section
variable {X : Cx} {tg : Expr}
noncomputable def iList (K : PySem.W.Frag) (tl : TE) : TI := fun σ H R => tl σ H fun x H1 => ∃ a, x = .ref a ∧ (∃ xs, SqL K H1 a xs) ∧ R (Itl K a) H1
theorem pi_list {l : Expr} {tl : TE} (hl : PE X l tl) : PI X tg l (iList X.K tl) := by
  intro pins s σ H R I h
  refine thn (hl pins s σ H _ I h) fun v s1 ⟨x, H1, I1, r1, q1⟩ => ?_
  obtain ⟨a, e, ⟨xs, hq⟩, q⟩ := q1
  subst e
  cases r1
  obtain ⟨its, rv, p, hz⟩ := I1.list hq
  refine wpAny_pyIter_list p.isList ?_
  refine ⟨s1.heap.objs.size, [s1.heap.objs.size], _, _, H1, rfl, I1.kept (t' := s1.toks) fun b o e => Heap.get?_push_of_some _ e, turn_list a _, ⟨_, Heap.get?_push_size _ rfl, rfl, rfl⟩, fun b hb => ?_, q⟩
  have e : b = s1.heap.objs.size := by simpa using hb
  subst e
  exact I1.fpOk (Nat.le_refl _) (I1.hok.fresh (Nat.le_refl _))
theorem range_it {pins : List (Addr × Obj)} {σ : St} {H : Hp} {s : Shared} {R : It → Hp → Prop} {E : Value → Shared → Prop} {lo hi : Int} {t u v : Tok} {tk : Nat} (I : Inv X pins σ H s) (h1 : -(2 ^ 62) ≤ lo) (h2 : lo < 2 ^ 62) (h3 : -(2 ^ 62) ≤ hi) (h4 : hi < 2 ^ 62)
    (q : R (Itr lo (hi - lo).toNat) H) : wpAny (model X.prog X.w) X.A (pyIter (.ref s.heap.objs.size)) (PIE X pins σ tg R) E { s with heap := s.heap.push { cls := .type "range", data := .fields #[.int lo t, .int hi u, .int 1 v] }, toks := tk } := by
  refine wpAny_pyIter_range (IsRange.new ..) (small_one h1 h2 h3 h4) ?_
  have I1 : Inv X pins σ H { s with heap := s.heap.push { cls := .type "range", data := .fields #[.int lo t, .int hi u, .int 1 v] }, toks := tk } := I.kept fun b o e => Heap.get?_push_of_some _ e
  refine ⟨(s.heap.push { cls := .type "range", data := .fields #[.int lo t, .int hi u, .int 1 v] }).objs.size, [(s.heap.push { cls := .type "range", data := .fields #[.int lo t, .int hi u, .int 1 v] }).objs.size], _, _, H, rfl,
    I1.kept (t' := tk) fun b o e => Heap.get?_push_of_some _ e, turn_range _ lo (hi - lo).toNat, ?_, fun b hb => ?_, q⟩
  · have e1 : lo + ((0 : Nat) : Int) * 1 = lo := by simp
    have e2 : (((hi - lo).toNat : Nat) : Int) - ((0 : Nat) : Int) = Builtin.Range.rangeSize lo hi 1 := by rw [rangeSize_one]; split <;> omega
    show IsRangeIter _ _ (lo + ((0 : Nat) : Int) * 1) ((((hi - lo).toNat : Nat) : Int) - ((0 : Nat) : Int)) 1
    rw [e1, e2]
    exact Heap.get?_push_size _ rfl
  · have e : b = (s.heap.push { cls := .type "range", data := .fields #[.int lo t, .int hi u, .int 1 v] }).objs.size := by simpa using hb
    subst e
    exact I1.fpOk (Nat.le_refl _) (I1.hok.fresh (Nat.le_refl _))
noncomputable def iRng1 (ta : TA) : TI := fun σ H R => ta σ H fun vs H1 => ∃ j : Int, vs = [.int j] ∧ -(2 ^ 62) ≤ j ∧ j < 2 ^ 62 ∧ R (Itr 0 j.toNat) H1
noncomputable def iRng2 (ta : TA) : TI := fun σ H R => ta σ H fun vs H1 => ∃ i j : Int, vs = [.int i, .int j] ∧ (-(2 ^ 62) ≤ i ∧ i < 2 ^ 62 ∧ -(2 ^ 62) ≤ j ∧ j < 2 ^ 62) ∧ R (Itr i (j - i).toNat) H1
theorem pi_range1 {a : Expr} {ta : TA} {p pos : Pos} (hg : Gl X "range") (hm : X.mg "range" = none) (ha : PA X [a] ta) (hs : starEach [a] X.env = [(false, eval a X.env)] := by rfl) : PI X tg (.Call (.Name "range" p) [a] [] pos) (iRng1 ta) := by
  intro pins s σ H R I h
  refine Call_ (ld_blt I hg hm boot_range (PyProof.Rows.callWith_type1 (thn (ha pos pins s σ H _ I h) fun us s1 ⟨vs, H1, I1, r1, q1⟩ => ?_) hs rfl))
  obtain ⟨j, e, q1, q2, q⟩ := q1
  subst e
  cases r1 with
  | cons r rr =>
    cases rr
    obtain ⟨t, rfl⟩ := r
    exact call_range_1 (range_it I1 (by omega) (by omega) q1 q2 (by simpa using q))
theorem pi_range2 {a b : Expr} {ta : TA} {p pos : Pos} (hg : Gl X "range") (hm : X.mg "range" = none) (ha : PA X [a, b] ta) (hs : starEach [a, b] X.env = [(false, eval a X.env), (false, eval b X.env)] := by rfl) (hs2 : starEach [b] X.env = [(false, eval b X.env)] := by rfl) :
    PI X tg (.Call (.Name "range" p) [a, b] [] pos) (iRng2 ta) := by
  intro pins s σ H R I h
  refine Call_ (ld_blt I hg hm boot_range (PyProof.Rows.callWith_type1 (thn (ha pos pins s σ H _ I h) fun us s1 ⟨vs, H1, I1, r1, q1⟩ => ?_) (by rw [hs, hs2]) (by rw [hs2]; rfl)))
  obtain ⟨i, j, e, ⟨q1, q2, q3, q4⟩, q⟩ := q1
  subst e
  cases r1 with
  | cons r rr =>
    cases rr with
    | cons r' rr =>
      cases rr
      obtain ⟨t, rfl⟩ := r
      obtain ⟨t', rfl⟩ := r'
      exact call_range_2 (range_it I1 q1 q2 q3 q4 q)

noncomputable def tFor (wi : TI) (g : TG) (tb : TS) : TS := fun D σ H => wi σ H fun J H1 => ∃ W : Nat → Nat → St → Hp → Prop, (∃ m, W 0 m σ H1) ∧ ∀ i m σ H, W i m σ H →
  (J.stop i H ∧ D.nx σ H) ∨ (J.go i H ∧ ∃ N : St → Hp → Prop, (∀ σ' H', N σ' H' → ∃ m', m' < m ∧ W (i + 1) m' σ' H') ∧ ∀ x H', J.yld i H x H' → g x σ H' fun σ2 H2 => tb { D with nx := N, ct := N, bk := D.nx } σ2 H2)
noncomputable def pinsAt (fp : List Addr) (h : Heap) : List (Addr × Obj) := fp.filterMap fun b => (h.get? b).map fun o => (b, o)
theorem mem_pinsAt {fp : List Addr} {h : Heap} {b : Addr} {o : Obj} (hb : b ∈ fp) (e : h.get? b = some o) : (b, o) ∈ pinsAt fp h := List.mem_filterMap.mpr ⟨b, hb, by rw [e]; rfl⟩
theorem of_pinsAt {fp : List Addr} {h : Heap} {p : Addr × Obj} (hp : p ∈ pinsAt fp h) : p.1 ∈ fp ∧ h.get? p.1 = some p.2 := by
  obtain ⟨b, hb, e⟩ := List.mem_filterMap.mp hp
  cases q : h.get? b with
  | none => rw [q] at e; cases e
  | some o =>
    rw [q] at e
    have e' : (b, o) = p := Option.some.inj e
    subst e'
    exact ⟨hb, q⟩
theorem Inv.pinned {pins : List (Addr × Obj)} {σ : St} {H : Hp} {s : Shared} {fp : List Addr} (I : Inv X pins σ H s) (hf : ∀ b ∈ fp, FpOk X pins H b) (ho : ∀ b ∈ fp, ∃ o, s.heap.get? b = some o ∧ ∀ v, o.data ≠ .cell v) : Inv X (pins ++ pinsAt fp s.heap) σ H s :=
  I.pins_of fun p hp => (List.mem_append.mp hp).elim (fun z => I.pin p (List.mem_append_right _ z)) fun z => by
    obtain ⟨hb, e⟩ := of_pinsAt z
    obtain ⟨f0, f1, f2, _⟩ := hf p.1 hb
    obtain ⟨o, e', d⟩ := ho p.1 hb
    rw [e] at e'; cases e'
    exact ⟨e, f0, f1, f2, d⟩
theorem Inv.unpinned {pins pl : List (Addr × Obj)} {σ : St} {H : Hp} {s : Shared} (I : Inv X (pins ++ pl) σ H s) : Inv X pins σ H s := I.pins_of fun p hp => I.pin p (List.mem_append_right _ (List.mem_append_left _ hp))
theorem ps_for {iter : Expr} {body : List Stmt} {wi : TI} {g : TG} {tb : TS} {pos : Pos} (hp : PassesOwn (model X.prog X.w) X.A X.env X.xe) (hc : X.calm = true) (hi : PI X tg iter wi) (hg : PG X tg g) (hb : PSs X body tb)
    (hs : ∀ x, foldedSetIterable iter X.env x = pure x := by intro _; rfl) : PS X (.For tg iter body [] pos) (tFor wi g tb) := by
  intro pins s σ H D I h
  refine wpAny_For (thn (hi pins s σ H _ I h) fun v s1 h1 => thn h1 fun itv s2 h2 => ?_) hs
  obtain ⟨it, fp, tn, J, H2, e, I2, T, st2, f2, W, ⟨m0, w0⟩, turn⟩ := h2
  subst e
  -- what stays true of the iterator's objects through the loop
  have stat : ∀ {H' : Hp}, (∀ b ∈ fp, H' b = none) → ∀ b ∈ fp, FpOk X pins H' b := fun hn b hb => ⟨hn b hb, (f2 b hb).2⟩
  refine codeAny_forLoop_any (fun n s' => ∃ i σ' H', Inv X pins σ' H' s' ∧ tn i s'.heap ∧ (∀ b ∈ fp, H' b = none) ∧ W i n σ' H') ?_ m0 ⟨0, σ, H2, I2, st2, fun b hb => (f2 b hb).1, w0⟩
  rintro n s3 ⟨i, σ3, H3, I3, st3, fr3, w3⟩
  rcases turn i n σ3 H3 w3 with ⟨stop, qn⟩ | ⟨go, N, hN, step⟩
  · refine wpAny_passesOwn hp (thn (T.done X rfl rfl rfl hc i pins s3 σ3 H3 X.xe I3 (stat fr3) st3 stop) fun r s4 ⟨hr, I4⟩ => ?_)
    subst hr
    exact wpAny_execs_nil ⟨σ3, H3, I4, qn⟩
  · refine wpAny_passesOwn hp (thn (T.item X rfl rfl rfl hc i pins s3 σ3 H3 X.xe I3 (stat fr3) st3 go) fun r s4 ⟨u, hr, h4⟩ => ?_)
    subst hr
    refine wpAny_passesOwn hp (thn h4 fun _ s5 ⟨x, H5, I5, r5, y5, st5, fr5⟩ => ?_)
    have I5' := I5.pinned (stat fr5) (T.obj _ _ st5)
    refine wpAny_passesOwn hp (thn (hg _ s5 σ3 H5 x u _ I5' r5 (step x H5 y5)) fun _ s6 ⟨σ6, H6, I6, q6⟩ => ?_)
    refine wpAny_passesOwn hp (thn (hb _ s6 σ6 H6 _ I6 q6) fun f s7 q7 => ?_)
    have again : ∀ {σ7 : St} {H7 : Hp}, Inv X (pins ++ pinsAt fp s5.heap) σ7 H7 s7 → N σ7 H7 → ∃ m, m < n ∧ ∃ i σ' H', Inv X pins σ' H' s7 ∧ tn i s7.heap ∧ (∀ b ∈ fp, H' b = none) ∧ W i m σ' H' := fun {σ7 H7} I7 n7 => by
      obtain ⟨m', hm, w7⟩ := hN σ7 H7 n7
      refine ⟨m', hm, i + 1, σ7, H7, I7.unpinned, T.keep _ _ _ st5 fun b hb o e => (I7.pin (b, o) (List.mem_append_right _ (List.mem_append_right _ (mem_pinsAt hb e)))).1, fun b hb => ?_, w7⟩
      obtain ⟨o, e, d⟩ := T.obj _ _ st5 b hb
      exact (I7.pin (b, o) (List.mem_append_right _ (List.mem_append_right _ (mem_pinsAt hb e)))).2.1
    cases f with
    | next => obtain ⟨σ7, H7, I7, n7⟩ := q7; exact again I7 n7
    | cont => obtain ⟨σ7, H7, I7, n7⟩ := q7; exact again I7 n7
    | brk => obtain ⟨σ7, H7, I7, q7⟩ := q7; exact ⟨σ7, H7, I7.unpinned, q7⟩
    | ret v => obtain ⟨x7, σ7, H7, I7, r7, q7⟩ := q7; exact ⟨x7, σ7, H7, I7.unpinned, r7, q7⟩
end

theorem for_list {K : PySem.W.Frag} {a : Addr} {xs : List V} {g : TG} {tb : TS} {D : Ends} {σ : St} {H : Hp} (Pv : Nat → St → Hp → Prop) (h0 : Pv 0 σ H) (hl : ∀ i σ H, i ≤ xs.length → Pv i σ H → SqL K H a xs)
    (hs : ∀ i x σ H, xs[i]? = some x → Pv i σ H → g x σ H fun σ2 H2 => tb { D with nx := Pv (i + 1), ct := Pv (i + 1), bk := D.nx } σ2 H2) (hd : ∀ σ H, Pv xs.length σ H → D.nx σ H) :
    ∃ W : Nat → Nat → St → Hp → Prop, (∃ m, W 0 m σ H) ∧ ∀ i m σ H, W i m σ H →
      ((Itl K a).stop i H ∧ D.nx σ H) ∨ ((Itl K a).go i H ∧ ∃ N : St → Hp → Prop, (∀ σ' H', N σ' H' → ∃ m', m' < m ∧ W (i + 1) m' σ' H') ∧ ∀ x H', (Itl K a).yld i H x H' → g x σ H' fun σ2 H2 => tb { D with nx := N, ct := N, bk := D.nx } σ2 H2) := by
  refine ⟨fun i m σ H => m = xs.length - i ∧ i ≤ xs.length ∧ Pv i σ H, ⟨xs.length, by simp, Nat.zero_le _, h0⟩, ?_⟩
  rintro i m σ H ⟨rfl, hi, p⟩
  have q := hl i σ H hi p
  by_cases hlt : i < xs.length
  · refine .inr ⟨⟨xs, xs[i], q, by simp [hlt]⟩, Pv (i + 1), fun σ' H' p' => ⟨xs.length - (i + 1), by omega, rfl, hlt, p'⟩, fun x H' y => ?_⟩
    obtain ⟨e, y⟩ := y
    subst e
    exact hs i x σ _ (y xs q) p
  · have e : i = xs.length := by omega
    subst e
    exact .inl ⟨⟨xs, q, Nat.le_refl _⟩, hd σ H p⟩
theorem for_range {lo : Int} {n : Nat} {g : TG} {tb : TS} {D : Ends} {σ : St} {H : Hp} (Pv : Nat → St → Hp → Prop) (h0 : Pv 0 σ H)
    (hs : ∀ i σ H, i < n → Pv i σ H → g (.int (lo + i)) σ H fun σ2 H2 => tb { D with nx := Pv (i + 1), ct := Pv (i + 1), bk := D.nx } σ2 H2) (hd : ∀ σ H, Pv n σ H → D.nx σ H) :
    ∃ W : Nat → Nat → St → Hp → Prop, (∃ m, W 0 m σ H) ∧ ∀ i m σ H, W i m σ H →
      ((Itr lo n).stop i H ∧ D.nx σ H) ∨ ((Itr lo n).go i H ∧ ∃ N : St → Hp → Prop, (∀ σ' H', N σ' H' → ∃ m', m' < m ∧ W (i + 1) m' σ' H') ∧ ∀ x H', (Itr lo n).yld i H x H' → g x σ H' fun σ2 H2 => tb { D with nx := N, ct := N, bk := D.nx } σ2 H2) := by
  refine ⟨fun i m σ H => m = n - i ∧ i ≤ n ∧ Pv i σ H, ⟨n, by simp, Nat.zero_le _, h0⟩, ?_⟩
  rintro i m σ H ⟨rfl, hi, p⟩
  by_cases hlt : i < n
  · refine .inr ⟨hlt, Pv (i + 1), fun σ' H' p' => ⟨n - (i + 1), by omega, rfl, hlt, p'⟩, fun x H' y => ?_⟩
    obtain ⟨e, y⟩ := y
    subst e y
    exact hs i σ _ hlt p
  · have e : i = n := by omega
    subst e
    exact .inl ⟨Nat.le_refl _, hd σ H p⟩
end L2

namespace L2
open PySem PySem.Spec PyProof.Rows

noncomputable abbrev R2 := V → V → Hp → VK → Prop
noncomputable def OpR (X : Cx) (f : Value → Value → Sem Value) (r : R2) : Prop :=
  ∀ (pins : List (Addr × Obj)) (s : Shared) (σ : St) (H : Hp) (x y : V) (v u : Value) (Q : VK), Inv X pins σ H s → RelV x v → RelV y u → r x y H Q →
    wpAny (model X.prog X.w) X.A (f v u) (EP X pins σ Q) X.xe s
noncomputable def UnR (X : Cx) (f : Value → Sem Value) (r : V → Hp → VK → Prop) : Prop :=
  ∀ (pins : List (Addr × Obj)) (s : Shared) (σ : St) (H : Hp) (x : V) (v : Value) (Q : VK), Inv X pins σ H s → RelV x v → r x H Q →
    wpAny (model X.prog X.w) X.A (f v) (EP X pins σ Q) X.xe s
noncomputable def CallR (X : Cx) (f : Value) (r : List V → Hp → VK → Prop) : Prop :=
  ∀ (pins : List (Addr × Obj)) (s : Shared) (σ : St) (H : Hp) (xs : List V) (us : List Value) (Q : VK), Inv X pins σ H s → Vals xs us → r xs H Q →
    wpAny (model X.prog X.w) X.A (call f us) (EP X pins σ Q) X.xe s
noncomputable def tOp (r : R2) (ta tb : TE) : TE := fun σ H Q => ta σ H fun x H1 => tb σ H1 fun y H2 => r x y H2 Q
noncomputable def tUn (r : V → Hp → VK → Prop) (ta : TE) : TE := fun σ H Q => ta σ H fun x H1 => r x H1 Q
noncomputable def rI (C : Int → Int → Prop) (g : Int → Int → V) : R2 := fun x y H Q => ∃ i j, x = .int i ∧ y = .int j ∧ C i j ∧ Q (g i j) H
noncomputable def rI0 (g : Int → Int → V) : R2 := fun x y H Q => ∃ i j, x = .int i ∧ y = .int j ∧ Q (g i j) H
noncomputable def rU (g : Int → V) : V → Hp → VK → Prop := fun x H Q => ∃ i, x = .int i ∧ Q (g i) H

section
variable {X : Cx} {a b c : Expr} {ta tb tc : TE} {pos : Pos}

theorem binT (ha : PE X a ta) (hb : PE X b tb) {pins : List (Addr × Obj)} {s : Shared} {σ : St} {H : Hp} {R : V → V → Hp → Prop} (I : Inv X pins σ H s)
    (h : ta σ H fun x H1 => tb σ H1 fun y H2 => R x y H2) {Q : Value → Shared → Prop} {f : Value → Value → Sem Value}
    (hf : ∀ v u s2 x y H2, Inv X pins σ H2 s2 → RelV x v → RelV y u → R x y H2 → wpAny (model X.prog X.w) X.A (f v u) Q X.xe s2) :
    wpAny (model X.prog X.w) X.A (eval a X.env) (fun v s₁ => wpAny (model X.prog X.w) X.A (eval b X.env) (fun u s₂ => wpAny (model X.prog X.w) X.A (f v u) Q X.xe s₂) X.xe s₁) X.xe s := by
  refine thn (ha pins s σ H _ I h) fun v s1 ⟨x, H1, I1, r1, q1⟩ => ?_
  refine thn (hb pins s1 σ H1 _ I1 q1) fun u s2 ⟨y, H2, I2, r2, q2⟩ => ?_
  exact hf v u s2 x y H2 I2 r1 r2 q2

theorem pe_op {op : Operator} {r : R2} (ho : OpR X (binaryOp op) r) (ha : PE X a ta) (hb : PE X b tb) : PE X (.BinOp a op b pos) (tOp r ta tb) := by
  intro pins s σ H Q I h
  exact wpAny_BinOp (binT ha hb I h fun v u s2 x y H2 I2 rx ry q => ho pins s2 σ H2 x y v u Q I2 rx ry q)
theorem pe_un {op : UnaryOp} {r : V → Hp → VK → Prop} (ho : UnR X (unaryOp op) r) (ha : PE X a ta) : PE X (.UnaryOp op a pos) (tUn r ta) := by
  intro pins s σ H Q I h
  exact UnaryOp_ (thn (ha pins s σ H _ I h) fun v s1 ⟨x, H1, I1, r1, q1⟩ => ho pins s1 σ H1 x v Q I1 r1 q1)
theorem opI {f : Value → Value → Sem Value} {C : Int → Int → Prop} {g : Int → Int → Int}
    (rule : ∀ (i j : Int) (t u : Tok) (s : Shared) (Q : Value → Shared → Prop) (E : Value → Shared → Prop), C i j → Q (.int (g i j) s.toks) { s with toks := s.toks + 1 } → wpAny (model X.prog X.w) X.A (f (.int i t) (.int j u)) Q E s) :
    OpR X f (rI C fun i j => .int (g i j)) := by
  intro pins s σ H x y v u Q I rx ry h
  obtain ⟨i, j, rfl, rfl, hc, q⟩ := h
  obtain ⟨t, rfl⟩ := rx
  obtain ⟨t', rfl⟩ := ry
  exact rule i j t t' s _ _ hc ⟨.int (g i j), H, I.tok _, ⟨_, rfl⟩, q⟩
theorem opI0 {f : Value → Value → Sem Value} {g : Int → Int → Int}
    (rule : ∀ (i j : Int) (t u : Tok) (s : Shared) (Q : Value → Shared → Prop) (E : Value → Shared → Prop), Q (.int (g i j) s.toks) { s with toks := s.toks + 1 } → wpAny (model X.prog X.w) X.A (f (.int i t) (.int j u)) Q E s) :
    OpR X f (rI0 fun i j => .int (g i j)) := by
  intro pins s σ H x y v u Q I rx ry h
  obtain ⟨i, j, rfl, rfl, q⟩ := h
  obtain ⟨t, rfl⟩ := rx
  obtain ⟨t', rfl⟩ := ry
  exact rule i j t t' s _ _ ⟨.int (g i j), H, I.tok _, ⟨_, rfl⟩, q⟩
theorem opB0 {f : Value → Value → Sem Value} {g : Int → Int → Bool}
    (rule : ∀ (i j : Int) (t u : Tok) (s : Shared) (Q : Value → Shared → Prop) (E : Value → Shared → Prop), Q (.bool (g i j)) s → wpAny (model X.prog X.w) X.A (f (.int i t) (.int j u)) Q E s) :
    OpR X f (rI0 fun i j => .bl (g i j)) := by
  intro pins s σ H x y v u Q I rx ry h
  obtain ⟨i, j, rfl, rfl, q⟩ := h
  obtain ⟨t, rfl⟩ := rx
  obtain ⟨t', rfl⟩ := ry
  exact rule i j t t' s _ _ ⟨.bl (g i j), H, I, rfl, q⟩

noncomputable def CPow (i j : Int) : Prop := 0 ≤ j ∧ j ≤ 1000000 ∧ i.natAbs < 2 ^ 64
noncomputable def CMul (i j : Int) : Prop := (-(2 ^ 64) < i ∧ i < 2 ^ 64) ∨ (-(2 ^ 64) < j ∧ j < 2 ^ 64)
theorem CMul.ok {i j : Int} (h : CMul i j) : IntMulOk i j := by
  rcases h with ⟨h1, h2⟩ | ⟨h1, h2⟩
  · exact .of_left (intBits_le_64 h1 h2)
  · exact .of_right (intBits_le_64 h1 h2)
theorem op_add : OpR X (binaryOp .Add) (rI0 fun i j => .int (i + j)) := opI0 fun _ _ _ _ _ _ _ q => add_int q
theorem op_sub : OpR X (binaryOp .Sub) (rI0 fun i j => .int (i - j)) := opI0 fun _ _ _ _ _ _ _ q => sub_int q
theorem op_mul : OpR X (binaryOp .Mult) (rI CMul fun i j => .int (i * j)) := opI fun _ _ _ _ _ _ _ hc q => mul_int q hc.ok
theorem op_mod : OpR X (binaryOp .Mod) (rI (fun _ j => 0 < j) fun i j => .int (i % j)) := opI fun i j _ _ _ _ _ hc q => by
  have h1 : (0 : Int) < j := hc
  exact mod_int' (by omega) (by rw [Int.fmod_eq_emod_of_nonneg i (by omega)]; exact q)
theorem op_pow : OpR X (binaryOp .Pow) (rI CPow fun i j => .int (i ^ j.toNat)) := opI fun _ _ _ _ _ _ _ hc q => pow_int_small hc.1 hc.2.1 hc.2.2 q
theorem unI {f : Value → Sem Value} {g : Int → Int}
    (rule : ∀ (i : Int) (t : Tok) (s : Shared) (Q : Value → Shared → Prop) (E : Value → Shared → Prop), Q (.int (g i) s.toks) { s with toks := s.toks + 1 } → wpAny (model X.prog X.w) X.A (f (.int i t)) Q E s) :
    UnR X f (rU fun i => .int (g i)) := by
  intro pins s σ H x v Q I rx h
  obtain ⟨i, rfl, q⟩ := h
  obtain ⟨t, rfl⟩ := rx
  exact rule i t s _ _ ⟨.int (g i), H, I.tok _, ⟨_, rfl⟩, q⟩
theorem un_neg : UnR X (unaryOp .USub) (rU fun i => .int (-i)) := unI fun _ _ _ _ _ q => neg_int q
end

noncomputable def scal : V → V → Bool
  | .non, .non => true | .non, .int _ => true | .int _, .non => true | .non, .bl _ => true | .bl _, .non => true | .non, .str _ => true | .str _, .non => true
  | .int _, .int _ => true | .bl _, .bl _ => true | .str _, .str _ => true | .byt _, .byt _ => true
  | .int _, .str _ => true | .str _, .int _ => true | .bl _, .str _ => true | .str _, .bl _ => true
  | _, _ => false
noncomputable def rEq : R2 := fun x y H Q => scal x y = true ∧ Q (.bl (decide (x = y))) H
noncomputable def rNe : R2 := fun x y H Q => scal x y = true ∧ Q (.bl (!decide (x = y))) H

theorem dec_int {i j : Int} : decide (V.int i = V.int j) = (i == j) := by
  rw [Bool.eq_iff_iff]
  simp
theorem dec_bl {i j : Bool} : decide (V.bl i = V.bl j) = (i == j) := by
  rw [Bool.eq_iff_iff]
  simp
theorem dec_str {i j : Str} : decide (V.str i = V.str j) = (i == j) := by
  rw [Bool.eq_iff_iff]
  simp
theorem dec_byt {i j : Array UInt8} : decide (V.byt i = V.byt j) = (i.toList == j.toList) := by
  rw [Bool.eq_iff_iff]
  cases i
  cases j
  simp

section
variable {X : Cx} {a b c : Expr} {ta tb tc : TE} {pos : Pos}
theorem fin_bl {pins : List (Addr × Obj)} {σ : St} {H : Hp} {s : Shared} {Q : VK} {k k' : Bool} (I : Inv X pins σ H s) (q : Q (.bl k) H) (e : k = k') : EP X pins σ Q (.bool k') s := by
  subst e
  exact ⟨.bl k, H, I, rfl, q⟩
theorem op_eq : OpR X (compareOp .Eq) rEq := by
  intro pins s σ H x y v u Q I rx ry h
  obtain ⟨hs, q⟩ := h
  cases x with
  | non =>
    cases rx
    cases y with
    | non => cases ry; exact PySem.EqNone.eq_none_none (fin_bl I q (by simp))
    | bl j => cases ry; exact PySem.EqNone.eq_none_bool (fin_bl I q (by simp))
    | int j => obtain ⟨t', rfl⟩ := ry; exact PySem.EqNone.eq_none_int (fin_bl I q (by simp))
    | str j => obtain ⟨t', rfl⟩ := ry; exact PySem.EqNone.eq_none_str (fin_bl I q (by simp))
    | _ => exact absurd (show false = true from hs) Bool.false_ne_true
  | bl i =>
    cases rx
    cases y with
    | non => cases ry; exact PySem.EqNone.eq_bool_none (fin_bl I q (by simp))
    | bl j => cases ry; exact eq_bool (fin_bl I q dec_bl)
    | str j => obtain ⟨t', rfl⟩ := ry; exact PySem.EqMixed.eq_bool_str (fin_bl I q (by simp))
    | _ => exact absurd (show false = true from hs) Bool.false_ne_true
  | int i =>
    obtain ⟨t, rfl⟩ := rx
    cases y with
    | non => cases ry; exact PySem.EqNone.eq_int_none (fin_bl I q (by simp))
    | int j => obtain ⟨t', rfl⟩ := ry; exact eq_int (fin_bl I q dec_int)
    | str j => obtain ⟨t', rfl⟩ := ry; exact PySem.EqMixed.eq_int_str (fin_bl I q (by simp))
    | _ => exact absurd (show false = true from hs) Bool.false_ne_true
  | str i =>
    obtain ⟨t, rfl⟩ := rx
    cases y with
    | non => cases ry; exact PySem.EqNone.eq_str_none (fin_bl I q (by simp))
    | bl j => cases ry; exact PySem.EqMixed.eq_str_bool (fin_bl I q (by simp))
    | int j => obtain ⟨t', rfl⟩ := ry; exact PySem.EqMixed.eq_str_int (fin_bl I q (by simp))
    | str j => obtain ⟨t', rfl⟩ := ry; exact eq_str (fin_bl I q dec_str)
    | _ => exact absurd (show false = true from hs) Bool.false_ne_true
  | byt i =>
    obtain ⟨t, rfl⟩ := rx
    cases y with
    | byt j => obtain ⟨t', rfl⟩ := ry; exact PySem.W.eq_bytes (fin_bl I q dec_byt)
    | _ => exact absurd (show false = true from hs) Bool.false_ne_true
  | _ => cases y <;> exact absurd (show false = true from hs) Bool.false_ne_true
theorem op_ne : OpR X (compareOp .NotEq) rNe := by
  intro pins s σ H x y v u Q I rx ry h
  obtain ⟨hs, q⟩ := h
  cases x with
  | non =>
    cases rx
    cases y with
    | non => cases ry; exact PySem.EqNone.ne_none_none (fin_bl I q (by simp))
    | bl j => cases ry; exact PySem.EqNone.ne_none_bool (fin_bl I q (by simp))
    | int j => obtain ⟨t', rfl⟩ := ry; exact PySem.EqNone.ne_none_int (fin_bl I q (by simp))
    | str j => obtain ⟨t', rfl⟩ := ry; exact PySem.EqNone.ne_none_str (fin_bl I q (by simp))
    | _ => exact absurd (show false = true from hs) Bool.false_ne_true
  | bl i =>
    cases rx
    cases y with
    | non => cases ry; exact PySem.EqNone.ne_bool_none (fin_bl I q (by simp))
    | bl j => cases ry; exact ne_bool (fin_bl I q (congrArg not dec_bl))
    | str j => obtain ⟨t', rfl⟩ := ry; exact PySem.EqMixed.ne_bool_str (fin_bl I q (by simp))
    | _ => exact absurd (show false = true from hs) Bool.false_ne_true
  | int i =>
    obtain ⟨t, rfl⟩ := rx
    cases y with
    | non => cases ry; exact PySem.EqNone.ne_int_none (fin_bl I q (by simp))
    | int j => obtain ⟨t', rfl⟩ := ry; exact ne_int (fin_bl I q (congrArg not dec_int))
    | str j => obtain ⟨t', rfl⟩ := ry; exact PySem.EqMixed.ne_int_str (fin_bl I q (by simp))
    | _ => exact absurd (show false = true from hs) Bool.false_ne_true
  | str i =>
    obtain ⟨t, rfl⟩ := rx
    cases y with
    | non => cases ry; exact PySem.EqNone.ne_str_none (fin_bl I q (by simp))
    | bl j => cases ry; exact PySem.EqMixed.ne_str_bool (fin_bl I q (by simp))
    | int j => obtain ⟨t', rfl⟩ := ry; exact PySem.EqMixed.ne_str_int (fin_bl I q (by simp))
    | str j => obtain ⟨t', rfl⟩ := ry; exact ne_str (fin_bl I q (congrArg not dec_str))
    | _ => exact absurd (show false = true from hs) Bool.false_ne_true
  | byt i =>
    obtain ⟨t, rfl⟩ := rx
    cases y with
    | byt j => obtain ⟨t', rfl⟩ := ry; exact PySem.W.ne_bytes (fin_bl I q (congrArg not dec_byt))
    | _ => exact absurd (show false = true from hs) Bool.false_ne_true
  | _ => cases y <;> exact absurd (show false = true from hs) Bool.false_ne_true

theorem op_lt : OpR X (compareOp .Lt) (rI0 fun i j => .bl (decide (i < j))) := opB0 fun _ _ _ _ _ _ _ q => lt_int q
theorem op_le : OpR X (compareOp .LtE) (rI0 fun i j => .bl (decide (i ≤ j))) := opB0 fun _ _ _ _ _ _ _ q => le_int q
theorem op_gt : OpR X (compareOp .Gt) (rI0 fun i j => .bl (decide (j < i))) := opB0 fun _ _ _ _ _ _ _ q => gt_int q
theorem op_ge : OpR X (compareOp .GtE) (rI0 fun i j => .bl (decide (j ≤ i))) := opB0 fun _ _ _ _ _ _ _ q => ge_int q
theorem OpR.or {f : Value → Value → Sem Value} {r r' : R2} (h : OpR X f r) (h' : OpR X f r') : OpR X f (fun x y H Q => r x y H Q ∨ r' x y H Q) := by
  intro pins s σ H x y v u Q I rx ry q
  rcases q with q | q
  · exact h pins s σ H x y v u Q I rx ry q
  · exact h' pins s σ H x y v u Q I rx ry q

theorem nomark (b : Expr) {op : CmpOp} (h : op ≠ .In := by decide) (h2 : op ≠ .NotIn := by decide) : behindInMarks op b = false := by
  have e1 : (op == CmpOp.In) = false := by cases op <;> first | rfl | exact absurd rfl h
  have e2 : (op == CmpOp.NotIn) = false := by cases op <;> first | rfl | exact absurd rfl h2
  cases b <;> simp [behindInMarks, e1, e2]
theorem pe_cmpR {op : CmpOp} {r : R2} (ho : OpR X (compareOp op) r) (ha : PE X a ta) (hb : PE X b tb) (hm : behindInMarks op b = false) : PE X (.Compare a [op] [b] pos) (tOp r ta tb) := by
  intro pins s σ H Q I h
  exact wpAny_Compare1 (binT ha hb I h fun v u s2 x y H2 I2 rx ry q => ho pins s2 σ H2 x y v u Q I2 rx ry q) hm
noncomputable def tTest (t : TE) : TT := fun σ H Q => t σ H fun x H' => ∃ k, x = .bl k ∧ Q k H'
theorem pt_cmpR {op : CmpOp} {r : R2} (ho : OpR X (compareOp op) r) (ha : PE X a ta) (hb : PE X b tb) (hm : behindInMarks op b = false) : PT X (.Compare a [op] [b] pos) (tTest (tOp r ta tb)) := by
  intro pins s σ H Q I h
  refine wpAny_isTrue_Compare1 (thn (ha pins s σ H _ I h) fun v s1 ⟨x, H1, I1, r1, q1⟩ => thn (hb pins s1 σ H1 _ I1 q1) fun u s2 ⟨y, H2, I2, r2, q2⟩ =>
    thn (ho pins s2 σ H2 x y v u _ I2 r1 r2 q2) fun c s3 ⟨z, H3, I3, r3, k, e, q3⟩ => ?_) hm
  subst e
  cases r3
  exact wpAny_truthy_bool ⟨H3, I3, q3⟩
noncomputable def tChain (r r' : R2) (ta tb tc : TE) : TE := fun σ H Q => ta σ H fun x H1 => tb σ H1 fun y H2 => r x y H2 fun z H3 => ∃ k, z = .bl k ∧
  (if k = true then tc σ H3 fun w' H4 => r' y w' H4 Q else Q (.bl false) H3)
theorem pe_chain {op op' : CmpOp} {r r' : R2} (ho : OpR X (compareOp op) r) (ho' : OpR X (compareOp op') r') (ha : PE X a ta) (hb : PE X b tb) (hc : PE X c tc)
    (hm : lastMarks [op, op'] [b, c] = false := by with_unfolding_all rfl) : PE X (.Compare a [op, op'] [b, c] pos) (tChain r r' ta tb tc) := by
  intro pins s σ H Q I h
  refine Compare_chain (thn (ha pins s σ H _ I h) fun v s1 ⟨x, H1, I1, r1, q1⟩ => chain_link (thn (hb pins s1 σ H1 _ I1 q1) fun u s2 ⟨y, H2, I2, r2, q2⟩ =>
    thn (ho pins s2 σ H2 x y v u _ I2 r1 r2 q2) fun d s3 ⟨z, H3, I3, r3, k, e, q3⟩ => ?_)) hm
  subst e
  cases r3
  refine wpAny_truthy_bool ?_
  cases k with
  | false => exact ite_ff ⟨.bl false, H3, I3, rfl, q3⟩
  | true => exact ite_tt (chain_last (thn (hc pins s3 σ H3 _ I3 q3) fun w' s4 ⟨z', H4, I4, r4, q4⟩ => ho' pins s4 σ H4 y z' u w' Q I4 r2 r4 q4))
theorem line63 : (sizeLine : Nat) < 2 ^ 63 := by rw [sizeLine_eq]; decide
theorem vals1 {x : V} {us : List Value} (r : Vals [x] us) : ∃ u, us = [u] ∧ RelV x u := by
  cases r with
  | cons r1 r2 => cases r2; exact ⟨_, rfl, r1⟩
theorem vals2 {x y : V} {us : List Value} (r : Vals [x, y] us) : ∃ u w', us = [u, w'] ∧ RelV x u ∧ RelV y w' := by
  cases r with
  | cons r1 r2 =>
    cases r2 with
    | cons r3 r4 => cases r4; exact ⟨_, _, rfl, r1, r3⟩
theorem call_max2 (hc : X.calm = true) : CallR X (.builtin "max") (fun xs H Q => ∃ i j, xs = [.int i, .int j] ∧ Q (.int (if j > i then j else i)) H) := by
  intro pins s σ H xs us Q I r h
  obtain ⟨i, j, rfl, q⟩ := h
  obtain ⟨u, w', rfl, ⟨t, rfl⟩, ⟨t', rfl⟩⟩ := vals2 r
  refine max_two_ints (I.ok.hd hc) fun h' tk k => ⟨_, H, I.kept k, ?_, q⟩
  by_cases hj : j > i
  · rw [if_pos hj, if_pos hj]; exact ⟨_, rfl⟩
  · rw [if_neg hj, if_neg hj]; exact ⟨_, rfl⟩
end
end L2

namespace L2
open PySem PySem.Spec PyProof.Rows

structure ObjM (h : Heap) (x dx C : Addr) (mA : Str → Option Value) : Prop where
  obj : h.get? x = some (PySem.W.instObj C dx)
  ns : h.Ns1 dx mA
  ne : dx ≠ x

theorem lookIn_ns {h : Heap} {dx : Addr} {mA : Str → Option Value} (n : h.Ns1 dx mA) : ∃ od, h.get? dx = some od ∧ ∀ name, PySem.W.lookIn name od = some (mA name) := by
  obtain ⟨o, es, ep, ho, hd, hk, _, hm⟩ := n
  refine ⟨o, ho, fun name => ?_⟩
  have e := hm name
  unfold nsFind findBy at e
  rw [← Array.find?_toList] at e
  unfold PySem.W.lookIn
  rw [hd]
  dsimp only
  split
  · rename_i y q
    rw [q] at e
    exact congrArg some e
  · rename_i q
    rw [q] at e
    have a : es.toList.any (·.refKey) = false := by
      rw [List.any_eq_false]
      intro y hy
      obtain ⟨z, t, hkey⟩ := hk y (Array.mem_toList_iff.mp hy)
      simp [DictEntry.refKey, hkey]
    have a' : ¬ es.toList.any (·.refKey) = true := by rw [a]; exact Bool.false_ne_true
    rw [if_neg a']
    exact congrArg some e

theorem ObjM.look {h : Heap} {x dx C : Addr} {mA : Str → Option Value} (I : ObjM h x dx C mA) : ∃ od, PySem.W.InstAt h x (PySem.W.instObj C dx) C (some od) ∧ ∀ name, PySem.W.lookIn name od = some (mA name) :=
  let ⟨od, ho, hl⟩ := lookIn_ns I.ns
  ⟨od, ⟨I.obj, rfl, rfl, ho⟩, hl⟩

section
variable {prog : Program} {w : World} {A : Around} {E : Value → Shared → Prop} {s : Shared} {K : PySem.W.Frag} {x dx C f : Addr} {mA : Str → Option Value} {name : Str} {v : Value}

theorem get_map {expr : Bool} {Q : Value → Shared → Prop} (X : K.In s.heap) (I : ObjM s.heap x dx C mA) (hg : PySem.W.plainGet K C name = true) (hh : PySem.W.hasDictIn K C = true)
    (ha : PySem.W.findIn K (.ref C) name = some none) (hv : mA name = some v) (hv' : PySem.W.handedIn v = true) (h : Q v { s with toks := s.toks + 1 }) :
    wpAny (model prog w) A (getAttr (.ref x) name expr) Q E s := by
  obtain ⟨od, J, hl⟩ := I.look
  exact PySem.W.get_value X J (PySem.W.plainGet_of hg).1 (PySem.W.findObj_own hh ha rfl (by rw [hl, hv])) hv' h

theorem get_meth {pl : Sem Bool} {Q : Value × List Value → Shared → Prop} (X : K.In s.heap) (I : ObjM s.heap x dx C mA) (hg : PySem.W.plainGet K C name = true)
    (hf : PySem.W.findIn K (.ref C) name = some (some (.ref f))) (ht : PySem.W.isFn K (.ref f) = true) (hv : mA name = none) (h : Q (.ref f, [.ref x]) s) :
    wpAny (model prog w) A (getMethod (.ref x) name pl) Q E s := by
  obtain ⟨od, J, hl⟩ := I.look
  exact PySem.W.method_fn X J (PySem.W.plainGet_of hg).1 (PySem.W.plainGet_of hg).2 hf (beq_iff_eq.mp ht) (by show (PySem.W.lookIn name od).map (·.isSome) = some false; rw [hl, hv]; rfl) h

theorem set_map {ns : List Str} {Q : Unit → Shared → Prop} (X : K.In s.heap) (I : ObjM s.heap x dx C mA)
    (hs : PySem.W.findIn K (.ref C) "__setattr__" = some (some (.builtin "object.__setattr__"))) (hp : PySem.W.plainOver K C = true) (ht : PySem.W.takerIn K C name = some none) (hh : PySem.W.hasDictIn K C = true)
    (hw : PySem.Within mA ns) (hsz : ns.length ≤ sizeLine)
    (h : ∀ h', ObjM h' x dx C (fun y => if y = name then some v else mA y) → Heap.SameBut dx s.heap h' → Q () { s with heap := h', toks := s.toks + 2 }) :
    wpAny (model prog w) A (setAttr (.ref x) name v) Q E s := by
  obtain ⟨od, J, hl⟩ := I.look
  refine PySem.W.set_plain X J hs (PySem.W.osa_open (s := { s with toks := s.toks + 1 }) (r := none) X J hp ht fun b => ?_)
  obtain ⟨cd, hc, hd'⟩ := PySem.W.any_some hh
  have hx : s.heap.get? x = some ⟨.ref C, some dx, .plain, #[]⟩ := I.obj
  refine wpAny_bind (wpAny_pure (wpAny_bind (wpAny_bind (wpAny_loadPart hx (wpAny_bind (PySem.W.Looks.here (s := { s with toks := s.toks + 1 }) (PySem.W.looks_clsIn X hc) ?_))))))
  rw [hd']
  refine wpAny_pure (a := some dx) (wpAny_bind (wpAny_pure (wpAny_bind ?_)))
  refine wpAny_nsSet1 (s := { s with toks := s.toks + 1 }) I.ns fun h' hn2 hs2 => ?_
  obtain ⟨oD, esD, epD, hoD, hdD, hcD⟩ := hn2.count (PySem.Within.cons name v hw)
  refine wpAny_bind (wpAny_lookBehind hoD (by rw [hdD]; exact pastItsLine_dict (Nat.le_trans hcD (by rw [List.length_cons]; omega))) ?_)
  exact wpAny_pure (h _ ⟨(hs2.2 _ (Ne.symm I.ne)).trans I.obj, hn2, I.ne⟩ hs2)

theorem make_map {R : Result → Shared → Prop} {vs : List Value} {kw : List (Str × Value)} (X : K.In s.heap) (hm : PySem.W.makesIn K C = true)
    (hi : PySem.W.findIn K (.ref C) "__init__" = some (some (.ref f))) (hf : PySem.W.typeIn K (.ref f) = some (.type "function"))
    (h : codeAny (model prog w) (A.under (.builtin "type.__call__" ⟨.ref C :: vs, kw⟩)) (.call (.ref f) ⟨.ref (s.heap.objs.size + 1) :: vs, kw⟩) (PySem.W.InitBack (s.heap.objs.size + 1) R)
      { s with heap := (s.heap.push PySem.W.emptyDict).push (PySem.W.instObj C s.heap.objs.size) }) :
    codeAny (model prog w) A (.call (.ref C) ⟨vs, kw⟩) R s := by
  obtain ⟨hh, g, d, t, os⟩ := s
  exact PySem.W.make_core (PySem.W.makes_of X hm) (PySem.W.looks_findIn X hi) (fun self => PySem.W.bind_fn X self hf) (.inl rfl) h
end

noncomputable def putF (f : Str) (v : V) : List (Str × V) → List (Str × V)
  | [] => [(f, v)]
  | (g, x) :: r => if g = f then (g, v) :: r else (g, x) :: putF f v r
theorem lookup_putF (f g : Str) (v : V) : ∀ fs : List (Str × V), (putF f v fs).lookup g = if g = f then some v else fs.lookup g
  | [] => by
    show List.lookup g [(f, v)] = _
    by_cases h : g = f
    · have hb : (g == f) = true := beq_iff_eq.mpr h
      simp only [List.lookup, hb, if_pos h]
    · have hb : (g == f) = false := beq_eq_false_iff_ne.mpr h
      simp only [List.lookup, hb, if_neg h]
  | (k, x) :: r => by
    have ih := lookup_putF f g v r
    rw [show putF f v ((k, x) :: r) = (if k = f then (k, v) :: r else (k, x) :: putF f v r) from rfl]
    by_cases hk : k = f
    · rw [if_pos hk]
      by_cases h : g = k
      · have hb : (g == k) = true := beq_iff_eq.mpr h
        simp only [List.lookup, hb, if_pos (h.trans hk)]
      · have hb : (g == k) = false := beq_eq_false_iff_ne.mpr h
        simp only [List.lookup, hb, if_neg (fun e : g = f => h (e.trans hk.symm))]
    · rw [if_neg hk]
      by_cases h : g = k
      · have hb : (g == k) = true := beq_iff_eq.mpr h
        simp only [List.lookup, hb, if_neg (fun e : g = f => hk (h.symm.trans e))]
      · have hb : (g == k) = false := beq_eq_false_iff_ne.mpr h
        simp only [List.lookup, hb]
        exact ih
theorem keys_putF (f : Str) (v : V) : ∀ fs : List (Str × V), f ∈ (putF f v fs).map (·.1) ∧ ∀ g, g ∈ fs.map (·.1) → g ∈ (putF f v fs).map (·.1)
  | [] => ⟨by simp [putF], fun g h => by simp at h⟩
  | (k, x) :: r => by
    obtain ⟨i1, i2⟩ := keys_putF f v r
    rw [show putF f v ((k, x) :: r) = (if k = f then (k, v) :: r else (k, x) :: putF f v r) from rfl]
    by_cases hk : k = f
    · rw [if_pos hk]
      subst hk
      exact ⟨by simp, fun g h => by simpa using h⟩
    · rw [if_neg hk]
      refine ⟨?_, fun g h => ?_⟩
      · rw [List.map_cons]
        exact List.mem_cons_of_mem _ i1
      · rw [List.map_cons] at h ⊢
        rcases List.mem_cons.mp h with e | e
        · exact List.mem_cons.mpr (.inl e)
        · exact List.mem_cons_of_mem _ (i2 g e)
theorem length_putF (f : Str) (v : V) : ∀ fs : List (Str × V), (putF f v fs).length ≤ fs.length + 1
  | [] => by simp [putF]
  | (k, x) :: r => by
    have ih := length_putF f v r
    rw [show putF f v ((k, x) :: r) = (if k = f then (k, v) :: r else (k, x) :: putF f v r) from rfl]
    by_cases hk : k = f
    · rw [if_pos hk, List.length_cons, List.length_cons]; omega
    · rw [if_neg hk, List.length_cons, List.length_cons]; omega

theorem RelO.some_of {v : V} {o : Option Value} (r : RelO (some v) o) : ∃ u, o = some u ∧ RelV v u := by
  cases o with
  | none => exact (show False from r).elim
  | some u => exact ⟨u, rfl, r⟩
theorem RelO.none_of {o : Option Value} (r : RelO none o) : o = none := by
  cases o with
  | none => rfl
  | some u => exact (show False from r).elim
theorem handed_of {v : V} {u : Value} (r : RelV v u) : PySem.W.handedIn u = true := by
  cases v with
  | non => cases (show u = Value.none from r); rfl
  | bl b => cases (show u = Value.bool b from r); rfl
  | int i => obtain ⟨t, e⟩ := (show ∃ t, u = Value.int i t from r); cases e; rfl
  | str x => obtain ⟨t, e⟩ := (show ∃ t, u = Value.str x t from r); cases e; rfl
  | byt b => obtain ⟨t, e⟩ := (show ∃ t, u = Value.bytes b t from r); cases e; rfl
  | flt b => obtain ⟨t, e⟩ := (show ∃ t, u = Value.float b t from r); cases e; rfl
  | ref a => cases (show u = Value.ref a from r); rfl
  | ty n => cases (show u = Value.type n from r); rfl

section
variable {P : Program} {w : World} {H H' : Hp} {h h' : Heap} {a C dx : Addr} {fs fs' : List (Str × V)}
theorem ins_get (hok : HOk P w H h) (e : H a = some (.ins C dx fs)) : ∃ mA, ObjM h a dx C mA ∧ (∀ f, RelO (fs.lookup f) (mA f)) ∧ PySem.Within mA (fs.map (·.1)) ∧ fs.length ≤ 1000 ∧ H dx = some (.own a) := by
  obtain ⟨d, z, ne, ob, mA, n, r, q⟩ := (show ObjOk P w H h a (.ins C dx fs) from hok a _ e)
  exact ⟨mA, ⟨ob, n, ne⟩, r, q, z, d⟩
end

structure Cls (K : PySem.W.Frag) (C : Addr) : Prop where
  pg : PySem.W.plainGet K C Str.empty = true
  hd : PySem.W.hasDictIn K C = true
  po : PySem.W.plainOver K C = true
  sa : PySem.W.findIn K (.ref C) "__setattr__" = some (some (.builtin "object.__setattr__"))
theorem Cls.get {K : PySem.W.Frag} {C : Addr} (c : Cls K C) (f : Str) : PySem.W.plainGet K C f = true := c.pg
noncomputable def NoAttr (K : PySem.W.Frag) (C : Addr) (f : Str) : Prop := PySem.W.findIn K (.ref C) f = some none
theorem NoAttr.taker {K : PySem.W.Frag} {C : Addr} {f : Str} (n : NoAttr K C f) : PySem.W.takerIn K C f = some none := by
  unfold PySem.W.takerIn
  rw [show PySem.W.findIn K (.ref C) f = some none from n]
  rfl
structure Meth (K : PySem.W.Frag) (C : Addr) (m : Str) (f : Addr) : Prop where
  at_ : PySem.W.findIn K (.ref C) m = some (some (.ref f))
  fn : PySem.W.isFn K (.ref f) = true
  kp : PySem.W.keepIn K (.ref f) = true

section
variable {X : Cx} {pins : List (Addr × Obj)} {σ : St} {H : Hp} {s : Shared} {a C dx : Addr} {fs : List (Str × V)} {f : Str} {v : V} {A : Around} {E : Value → Shared → Prop}

theorem getattr_ok {b : Bool} {Q : Value → Shared → Prop} (I : Inv X pins σ H s) (e : H a = some (.ins C dx fs)) (c : Cls X.K C) (n : NoAttr X.K C f) (l : fs.lookup f = some v)
    (h : ∀ u s', Inv X pins σ H s' → RelV v u → Q u s') : wpAny (model X.prog X.w) A (getAttr (.ref a) f b) Q E s := by
  obtain ⟨mA, O, r, _, _, _⟩ := ins_get I.hok e
  obtain ⟨u, hu, ru⟩ := RelO.some_of (v := v) (o := mA f) (by rw [← l]; exact r f)
  exact get_map I.kIn O (c.get f) c.hd n hu (handed_of ru) (h u _ (I.tok _) ru)

theorem getmeth_ok {m : Str} {g : Addr} {pl : Sem Bool} {Q : Value × List Value → Shared → Prop} (I : Inv X pins σ H s) (e : H a = some (.ins C dx fs)) (c : Cls X.K C) (k : Meth X.K C m g) (l : fs.lookup m = none)
    (h : Q (.ref g, [.ref a]) s) : wpAny (model X.prog X.w) A (getMethod (.ref a) m pl) Q E s := by
  obtain ⟨mA, O, r, _, _, _⟩ := ins_get I.hok e
  have hn : mA m = none := RelO.none_of (by rw [← l]; exact r m)
  exact get_meth I.kIn O (c.get m) k.at_ k.fn hn h

theorem setattr_ok {y : V} {u : Value} {Q : Unit → Shared → Prop} (I : Inv X pins σ H s) (e : H a = some (.ins C dx fs)) (c : Cls X.K C) (n : NoAttr X.K C f) (hl : fs.length < 1000) (ry : RelV y u)
    (h : ∀ s', Inv X pins σ (upd H a (.ins C dx (putF f y fs))) s' → Q () s') : wpAny (model X.prog X.w) A (setAttr (.ref a) f u) Q E s := by
  obtain ⟨mA, O, r, wi, _, ho⟩ := ins_get I.hok e
  have hz : (fs.map (·.1)).length ≤ sizeLine := by rw [List.length_map, sizeLine_eq]; omega
  refine set_map I.kIn O c.sa c.po n.taker c.hd wi hz fun h' O' sb => h _ ?_
  have hd : ∃ o, h'.get? dx = some o := let ⟨o, _, _, e', _⟩ := O'.ns; ⟨o, e'⟩
  refine I.write (x := a) (e := dx) (by rw [e]; exact True.intro) (.inr ho) (fun b q hb z => (sb.2 b hb).trans z) hd ?_
  refine ⟨by rw [upd_ne O.ne]; exact ho, ?_, O.ne, O'.obj, _, O'.ns, fun g => ?_, fun g hg => ?_⟩
  · have := length_putF f y fs; omega
  · show RelO ((putF f y fs).lookup g) (if g = f then some u else mA g)
    rw [lookup_putF]
    by_cases q : g = f
    · rw [if_pos q, if_pos q]; exact ry
    · rw [if_neg q, if_neg q]; exact r g
  · by_cases q : g = f
    · rw [q]; exact (keys_putF f y fs).1
    · refine (keys_putF f y fs).2 g (wi g fun z => hg ?_)
      show (if g = f then some u else mA g) = none
      rw [if_neg q]; exact z

theorem Inv.made (I : Inv X pins σ H s) : Inv X pins σ (upd (upd H s.heap.objs.size (.own (s.heap.objs.size + 1))) (s.heap.objs.size + 1) (.ins C s.heap.objs.size []))
    { s with heap := (s.heap.push PySem.W.emptyDict).push (PySem.W.instObj C s.heap.objs.size) } := by
  have e1 : (s.heap.push PySem.W.emptyDict).get? s.heap.objs.size = some PySem.W.emptyDict := Heap.get?_push_size s.heap rfl
  have e2 : ((s.heap.push PySem.W.emptyDict).push (PySem.W.instObj C s.heap.objs.size)).get? (s.heap.objs.size + 1) = some (PySem.W.instObj C s.heap.objs.size) := by
    have := Heap.get?_push_size (s.heap.push PySem.W.emptyDict) (o := PySem.W.instObj C s.heap.objs.size) rfl
    rwa [Heap.size_push] at this
  have e3 : (s.heap.push PySem.W.emptyDict).Ns s.heap.objs.size (fun _ => none) := ⟨PySem.W.emptyDict, #[], _, e1, rfl, (fun e he => absurd he (by simp)), fun _ => rfl⟩
  have I1 := I.laid (a := s.heap.objs.size) (o := .own (s.heap.objs.size + 1)) (h' := s.heap.push PySem.W.emptyDict) (t' := s.toks) (fun b u q => Heap.get?_push_of_some _ q) (Nat.le_refl _) ⟨_, e1⟩
  refine I1.laid (a := s.heap.objs.size + 1) (o := .ins C s.heap.objs.size []) (t' := s.toks) (fun b u q => Heap.get?_push_of_some _ q) (Nat.le_of_eq (Heap.size_push _ _)) ?_
  have ne : s.heap.objs.size ≠ s.heap.objs.size + 1 := Nat.ne_of_lt (Nat.lt_succ_self _)
  refine ⟨by rw [upd_ne ne, upd_same], Nat.zero_le _, ne, e2, fun _ => none, (Heap.Ns1.of_empty e3).at fun o q => Heap.get?_push_of_some _ q, fun _ => True.intro, fun y hy => absurd rfl hy⟩

theorem attr_of {prog : Program} {w : World} {env : Env} {e : Expr} {f : Str} {pos : Pos} {s : Shared} {Q : Value → Shared → Prop} (hb : attributeBase e f env (eval e env) = eval e env)
    (h : wpAny (model prog w) A (eval e env) (fun o s₁ => wpAny (model prog w) A (getAttr o f true) Q E s₁) E s) : wpAny (model prog w) A (eval (.Attribute e f pos) env) Q E s :=
  Attribute_any_ h (by rw [arm_eval_Attribute, hb])
end

noncomputable def tFld (K : PySem.W.Frag) (ta : TE) (f : Str) : TE := fun σ H Q => ta σ H fun x H1 => ∃ a C dx fs v, x = .ref a ∧ H1 a = some (.ins C dx fs) ∧ Cls K C ∧ NoAttr K C f ∧ fs.lookup f = some v ∧ Q v H1
noncomputable def sFld (K : PySem.W.Frag) (ta tv : TE) (f : Str) : TS := fun D σ H => tv σ H fun y H1 => ta σ H1 fun x H2 => ∃ a C dx fs, x = .ref a ∧ H2 a = some (.ins C dx fs) ∧ Cls K C ∧ NoAttr K C f ∧ fs.length < 1000 ∧
  D.nx σ (upd H2 a (.ins C dx (putF f y fs)))
section
variable {X : Cx} {o e value : Expr} {f : Str} {pos pos' tpos : Pos} {ta tv : TE}
theorem pe_fld (he : PE X e ta) (hb : attributeBase e f X.env (eval e X.env) = eval e X.env) : PE X (.Attribute e f pos) (tFld X.K ta f) := by
  intro pins s σ H Q I h
  refine attr_of hb (thn (he pins s σ H _ I h) fun u s1 ⟨x, H1, I1, rx, a, C, dx, fs, v, ex, ea, c, n, l, q⟩ => ?_)
  subst ex
  obtain rfl : u = Value.ref a := rx
  exact getattr_ok I1 ea c n l fun u' s2 I2 ru => ⟨v, H1, I2, ru, q⟩
theorem ps_fld (ha : PE X o ta) (hv : PE X value tv) (hs : swapsWith value (some (.Attribute o f pos')) pos.line X.env = pure false) : PS X (.Assign [.Attribute o f pos'] value pos) (sFld X.K ta tv f) := by
  intro pins s σ H D I h
  refine plainObj_wpAny_Assign_Attribute (thn (hv pins s σ H _ I h) fun u s1 ⟨y, H1, I1, ry, q⟩ => thn (ha pins s1 σ H1 _ I1 q) fun ov s2 ⟨x, H2, I2, rx, a, C, dx, fs, ex, ea, c, n, l, q2⟩ => ?_) hs
  subst ex
  obtain rfl : ov = Value.ref a := rx
  exact setattr_ok I2 ea c n l ry fun s3 I3 => ⟨σ, _, I3, q2⟩
end

section
variable {X : Cx} {pins : List (Addr × Obj)} {σ : St} {H : Hp} {s : Shared} {A : Around} {E : Value → Shared → Prop} {Q : Value → Shared → Prop} {c : Value} {b : Bool}
inductive TyOf (K : PySem.W.Frag) (H : Hp) : V → Value → Prop where
  | non : TyOf K H .non (.type "NoneType")
  | bl (x : Bool) : TyOf K H (.bl x) (.type "bool")
  | int (i : Int) : TyOf K H (.int i) (.type "int")
  | str (x : Str) : TyOf K H (.str x) (.type "str")
  | flt (x : UInt64) : TyOf K H (.flt x) (.type "float")
  | lst {a : Addr} {xs : List V} (e : H a = some (.lst xs)) : TyOf K H (.ref a) (.type "list")
  | frz {a : Addr} {o : Obj} {xs : List V} (e : H a = some (.frz o (.lst xs))) : TyOf K H (.ref a) (.type "list")
  | tup {a : Addr} {xs : List V} (e : H a = some (.tup xs)) : TyOf K H (.ref a) (.type "tuple")
  | dK {a : Addr} {kvs : List (Key × V)} (e : H a = some (.dK kvs)) : TyOf K H (.ref a) (.type "dict")
  | dT {a : Addr} {kvs : List (List Key × V)} (e : H a = some (.dT kvs)) : TyOf K H (.ref a) (.type "dict")
  | ins {a C dx : Addr} {fs : List (Str × V)} (e : H a = some (.ins C dx fs)) (cl : Cls K C) (ha : PySem.W.findIn K (.ref C) "__class__" = some (some (.builtin "object.__class__")))
      (hn : PySem.W.specialIn K (.builtin "object.__class__") "__get__" = some (some (.builtin "getset_descriptor.__get__"))) (htk : PySem.W.takesIn K (.builtin "object.__class__") = some true)
      (hm : PySem.W.mroIn K C (.type "object") = some true) : TyOf K H (.ref a) (.ref C)
theorem isinst_ok {x : V} {u t : Value} (I : Inv X pins σ H s) (rx : RelV x u) (ty : TyOf X.K H x t) (e : PySem.W.kitOne X.K t c = some b) (h : ∀ tk, Q (.bool b) { s with toks := tk }) :
    wpAny (model X.prog X.w) A (call (.builtin "isinstance") [u, c]) Q E s := by
  cases ty with
  | non => cases (show u = Value.none from rx); exact PySem.W.kia_one PySem.W.kitx_none I.kIn True.intro e (fun z => nomatch z) h
  | bl y => cases (show u = Value.bool y from rx); exact PySem.W.kia_one PySem.W.kitx_bool I.kIn True.intro e (fun z => nomatch z) h
  | int i => obtain ⟨t, q⟩ := (show ∃ t, u = Value.int i t from rx); cases q; exact PySem.W.kia_one PySem.W.kitx_int I.kIn True.intro e (fun z => nomatch z) h
  | str y => obtain ⟨t, q⟩ := (show ∃ t, u = Value.str y t from rx); cases q; exact PySem.W.kia_one PySem.W.kitx_str I.kIn True.intro e (fun z => nomatch z) h
  | flt y => obtain ⟨t, q⟩ := (show ∃ t, u = Value.float y t from rx); cases q; exact PySem.W.kia_one PySem.W.kitx_float I.kIn True.intro e (fun z => nomatch z) h
  | @lst a xs ea =>
    cases (show u = Value.ref a from rx)
    obtain ⟨_, _, n, _, h1⟩ := (show ObjOk X.prog X.w H s.heap a (.lst xs) from I.hok a _ ea)
    exact PySem.W.kia_one PySem.W.kitx_list I.kIn ⟨_, h1, rfl⟩ e (fun z => nomatch z) h
  | @frz a ob xs ea =>
    cases (show u = Value.ref a from rx)
    obtain ⟨_, _, _, n, _, h1⟩ := (show ObjOk X.prog X.w H s.heap a (.frz ob (.lst xs)) from I.hok a _ ea)
    exact PySem.W.kia_one PySem.W.kitx_list I.kIn ⟨_, h1, rfl⟩ e (fun z => nomatch z) h
  | @tup a xs ea =>
    cases (show u = Value.ref a from rx)
    obtain ⟨_, _, _, p⟩ := (show ObjOk X.prog X.w H s.heap a (.tup xs) from I.hok a _ ea)
    obtain ⟨o, h1, h2, _⟩ := p
    exact PySem.W.kia_one PySem.W.kitx_tuple I.kIn ⟨o, h1, h2⟩ e (fun z => nomatch z) h
  | @dK a kvs ea =>
    cases (show u = Value.ref a from rx)
    obtain ⟨_, _, vs, _, p⟩ := (show ObjOk X.prog X.w H s.heap a (.dK kvs) from I.hok a _ ea)
    obtain ⟨o, es, ep, h1, h2, _⟩ := p
    exact PySem.W.kia_one PySem.W.kitx_dict I.kIn ⟨o, h1, h2.1⟩ e (fun z => nomatch z) h
  | @dT a kvs ea =>
    cases (show u = Value.ref a from rx)
    obtain ⟨_, _, xs, _, o, es, ep, h1, h2, _⟩ := (show ObjOk X.prog X.w H s.heap a (.dT kvs) from I.hok a _ ea)
    exact PySem.W.kia_one PySem.W.kitx_dict I.kIn ⟨o, h1, h2.1⟩ e (fun z => nomatch z) h
  | @ins a C dx fs ea cl ha hn htk hm =>
    cases (show u = Value.ref a from rx)
    obtain ⟨mA, O, _⟩ := ins_get I.hok ea
    obtain ⟨od, J, _⟩ := O.look
    exact PySem.W.kia_one (PySem.W.kitx_own (cl.get _) cl.hd ha hn htk hm) I.kIn J e (fun z => nomatch z) h
end
end L2

namespace L2
open PySem PySem.Spec PyProof.Rows

structure Room (k : Nat) (A : Around) : Prop where
  hd : A.handled = none
  dp : A.depth + 3 * k + 5 < recursionLimit
  un : A.units + 16 * k + 200 < cLine
theorem Room.mono {j k : Nat} {A : Around} (r : Room k A) (h : j ≤ k) : Room j A := ⟨r.hd, by have := r.dp; omega, by have := r.un; omega⟩
theorem Room.deeper {k : Nat} {A : Around} (r : Room (k + 1) A) (env : Env) : Room k (A.deeper env) :=
  ⟨r.hd, by have := r.dp; show A.depth + 1 + 3 * k + 5 < _; omega, by have := r.un; show A.units + 3 + 16 * k + 200 < _; omega⟩
theorem Room.in1 {k : Nat} {A : Around} (r : Room (k + 1) A) : Room k A.in1 :=
  ⟨r.hd, by have := r.dp; show A.depth + 3 * k + 5 < _; omega, by have := r.un; show A.units + 1 + 16 * k + 200 < _; omega⟩
theorem make_depth {A : Around} {C : Addr} {us : List Value} {kw : List (Str × Value)} : (A.under (.builtin "type.__call__" ⟨.ref C :: us, kw⟩)).depth = A.depth + 1 := by
  first | rfl | simp [Around.under, Code.weight, Code.isCreation, Code.isGuard, Code.isCaller, Code.frames, Code.isFrame, guardIds]
theorem make_units {A : Around} {C : Addr} {us : List Value} {kw : List (Str × Value)} : (A.under (.builtin "type.__call__" ⟨.ref C :: us, kw⟩)).units = A.units + 1 := by
  first | rfl | simp [Around.under, Code.cUnits, Code.frames, Code.isFrame]
theorem Room.make {k : Nat} {A : Around} (r : Room (k + 1) A) (C : Addr) (us : List Value) (kw : List (Str × Value)) : Room k (A.under (.builtin "type.__call__" ⟨.ref C :: us, kw⟩)) :=
  ⟨r.hd, by have := r.dp; rw [make_depth]; omega, by have := r.un; rw [make_units]; omega⟩
theorem Room.depth {k : Nat} {A : Around} (r : Room k A) : A.depth < recursionLimit := by have := r.dp; omega
theorem Room.units {k : Nat} {A : Around} (r : Room k A) : A.units + 64 < cLine := by have := r.un; omega
noncomputable def tNil : TA := fun _ H Q => Q [] H
noncomputable def tCons (ta : TE) (tr : TA) : TA := fun σ H Q => ta σ H fun x H1 => tr σ H1 fun xs H2 => Q (x :: xs) H2
section
variable {X : Cx} {e : Expr} {es : List Expr} {te : TE} {t : TA} {pos : Pos}
theorem pa_nil : PA X [] tNil := fun _ _ _ _ H Q I h => Calls.spliced_nil ⟨[], H, I, .nil, h⟩
theorem pa_cons (ha : PE X e te) (hr : PA X es t) (hs : starEach (e :: es) X.env = (false, eval e X.env) :: starEach es X.env := by rfl) : PA X (e :: es) (tCons te t) := by
  intro pos pins s σ H Q I h
  rw [hs]
  show wpAny _ _ (spliced ((false, eval e X.env) :: backTo pos (starEach es X.env))) _ _ s
  refine Calls.spliced_cons (thn (ha pins s σ H _ I h) fun u s1 ⟨x, H1, I1, r1, q1⟩ => ?_)
  exact thn (hr pos pins s1 σ H1 _ I1 q1) fun us s2 ⟨xs, H2, I2, r2, q2⟩ => ⟨x :: xs, H2, I2, .cons r1 r2, q2⟩

noncomputable def tTup (t : TA) : TE := fun σ H Q => t σ H fun xs H1 => xs.length ≤ sizeLine ∧ ∀ p, H1 p = none → Q (.ref p) (upd H1 p (.tup xs))
noncomputable def tLst (t : TA) : TE := fun σ H Q => t σ H fun xs H1 => xs.length ≤ sizeLine ∧ ∀ p, H1 p = none → Q (.ref p) (upd H1 p (.lst xs))
theorem pe_tup {x1} (h : PA X es t) : PE X (.Tuple es x1 pos) (tTup t) := by
  intro pins s σ H Q I hq
  refine wpAny_Tuple_spliced (thn (h pos pins s σ H _ I hq) fun us s1 ⟨xs, H1, I1, r, z, q⟩ => ⟨by rw [← r.length]; exact z, ?_⟩)
  have hf : H1 s1.heap.objs.size = none := I1.hok.fresh (Nat.le_refl _)
  refine ⟨.ref s1.heap.objs.size, upd H1 s1.heap.objs.size (.tup xs), I1.laid (t' := s1.toks) (fun b u e => Heap.get?_push_of_some _ e) (Nat.le_refl _) ?_, rfl, q _ hf⟩
  exact ⟨z, us, r, ⟨_, Heap.get?_push_size _ rfl, rfl, _, rfl⟩⟩
theorem pe_lst (h : PA X es t) : PE X (.List es pos) (tLst t) := by
  intro pins s σ H Q I hq
  refine wpAny_List_spliced (thn (h pos pins s σ H _ I hq) fun us s1 ⟨xs, H1, I1, r, z, q⟩ => ⟨by rw [← r.length]; exact z, ?_⟩)
  have hf : H1 s1.heap.objs.size = none := I1.hok.fresh (Nat.le_refl _)
  refine ⟨.ref s1.heap.objs.size, upd H1 s1.heap.objs.size (.lst xs), I1.laid (t' := s1.toks) (fun b u e => Heap.get?_push_of_some _ e) (Nat.le_refl _) ?_, rfl, q _ hf⟩
  exact ⟨z, us, 0, r, Heap.get?_push_size _ rfl⟩
end

noncomputable abbrev Sp := List V → Hp → VK → XK → Prop
noncomputable abbrev CXT := List Env → Hp → Shared → XK → Value → Shared → Prop

structure Env0 (P : Program) (w : World) (K : PySem.W.Frag) (mg : Str → Option Value) (base : Heap) (A : Around) (outer : List Env) (s : Shared) (H : Hp) : Prop where
  frames : A.frames = some outer
  mod : Mod K mg base
  bs : ∀ b o, base.get? b = some o → s.heap.get? b = some o ∧ H b = none
  bsz : base.objs.size ≤ s.heap.objs.size
  funs : s.heap.FunFrames base outer
  frf : ∀ b ∈ frs outer, H b = none
  hok : HOk P w H s.heap
  bare : AllBare s.gens
noncomputable def CE (outer : List Env) (P : Program) (w : World) (H : Hp) (s : Shared) (Q : VK) (u : Value) (s' : Shared) : Prop :=
  ∃ v H', s'.os = s.os ∧ AllBare s'.gens ∧ Un (frs outer) [] H H' s.heap s'.heap ∧ HOk P w H' s'.heap ∧ RelV v u ∧ Q v H'
noncomputable def CR (CX : CXT) (outer : List Env) (P : Program) (w : World) (H : Hp) (s : Shared) (Q : VK) (E : XK) (r : Result) (s' : Shared) : Prop :=
  match r with
  | .ok (.ret u) => CE outer P w H s Q u s'
  | .ok _ => False
  | .error e => CX outer H s E e s'
structure FnOk (P : Program) (w : World) (K : PySem.W.Frag) (mg : Str → Option Value) (base : Heap) (CX : CXT) (k : Nat) (f : Addr) (fd : FuncData) (ps : List Str) (sp : Sp) : Prop where
  len : ∀ vs H Q E, sp vs H Q E → vs.length = ps.length
  run : ∀ (A : Around) (outer : List Env) (s : Shared) (H : Hp) (args : Args) (us : List Value) (vs : List V) (Q : VK) (E : XK), Room k A → Env0 P w K mg base A outer s H → BindsTo s fd args (ps.zip us) → Vals vs us → sp vs H Q E →
    codeAny (model P w) A (.call (.ref f) args) (CR CX outer P w H s Q E) s
theorem FnOk.mono {P : Program} {w : World} {K : PySem.W.Frag} {mg : Str → Option Value} {base : Heap} {CX : CXT} {j k : Nat} {f : Addr} {fd : FuncData} {ps : List Str} {sp : Sp} (F : FnOk P w K mg base CX j f fd ps sp) (h : j ≤ k) :
    FnOk P w K mg base CX k f fd ps sp := ⟨F.len, fun A outer s H args us vs Q E hr => F.run A outer s H args us vs Q E (hr.mono h)⟩
theorem FnOk.imp {P : Program} {w : World} {K : PySem.W.Frag} {mg : Str → Option Value} {base : Heap} {CX : CXT} {k : Nat} {f : Addr} {fd : FuncData} {ps : List Str} {sp sp' : Sp} (F : FnOk P w K mg base CX k f fd ps sp)
    (h : ∀ vs H Q E, sp' vs H Q E → sp vs H Q E) : FnOk P w K mg base CX k f fd ps sp' :=
  ⟨fun vs H Q E q => F.len vs H Q E (h _ _ _ _ q), fun A outer s H args us vs Q E hr he hb hv hs => F.run A outer s H args us vs Q E hr he hb hv (h _ _ _ _ hs)⟩

theorem Env0.make {P : Program} {w : World} {K : PySem.W.Frag} {mg : Str → Option Value} {base : Heap} {A : Around} {outer : List Env} {s : Shared} {H : Hp} (e : Env0 P w K mg base A outer s H) (C : Addr) (us : List Value) (kw : List (Str × Value)) :
    Env0 P w K mg base (A.under (.builtin "type.__call__" ⟨.ref C :: us, kw⟩)) outer s H := ⟨by first | exact e.frames | (simpa [Around.under, Code.envs, Code.isFrame, pushEnvs] using e.frames), e.mod, e.bs, e.bsz, e.funs, e.frf, e.hok, e.bare⟩
theorem Env0.in1 {P : Program} {w : World} {K : PySem.W.Frag} {mg : Str → Option Value} {base : Heap} {A : Around} {outer : List Env} {s : Shared} {H : Hp} (e : Env0 P w K mg base A outer s H) :
    Env0 P w K mg base A.in1 outer s H := ⟨e.frames, e.mod, e.bs, e.bsz, e.funs, e.frf, e.hok, e.bare⟩

section
variable {X : Cx} {pins : List (Addr × Obj)} {σ : St} {H : Hp} {s s' : Shared}
theorem Inv.env0 (I : Inv X pins σ H s) : Env0 X.prog X.w X.K X.mg X.base X.A X.stack s H :=
  ⟨I.ok.frames, I.ok.mod, I.bs, Nat.le_trans I.ok.bsz I.sz, I.stack, I.stkFree, I.hok, I.bare⟩
theorem Inv.after {Q : VK} {u : Value} (I : Inv X pins σ H s) (h : CE X.stack X.prog X.w H s Q u s') : EP X pins σ Q u s' := by
  obtain ⟨v, H', os, bare, un, hok, r, q⟩ := h
  obtain ⟨hh, g, d, t, os'⟩ := s'
  obtain rfl : os' = s.os := os
  exact ⟨v, H', I.call (h' := hh) (g' := g) (d' := d) (t' := t) (ch := []) un hok bare (fun b z => absurd z (by simp)), r, q⟩
end

noncomputable def tCall (sp : Sp) (dvs : List V) (E : XK) (t : TA) : TE := fun σ H Q => t σ H fun vs H1 => sp (vs ++ dvs) H1 Q E
noncomputable def tMeth (C : Addr) (m : Str) (sp : Sp) (dvs : List V) (E : XK) (ta : TE) (t : TA) : TE := fun σ H Q => ta σ H fun x H1 => ∃ a dx fs, x = .ref a ∧ H1 a = some (.ins C dx fs) ∧ fs.lookup m = none ∧
  t σ H1 fun vs H2 => sp (x :: (vs ++ dvs)) H2 Q E
noncomputable def tMake (C : Addr) (sp : Sp) (dvs : List V) (E : XK) (t : TA) : TE := fun σ H Q => t σ H fun vs H1 => ∀ x dx, H1 x = none → H1 dx = none → dx ≠ x →
  sp (.ref x :: (vs ++ dvs)) (upd (upd H1 dx (.own x)) x (.ins C dx [])) (fun v H2 => v = .non ∧ Q (.ref x) H2) E

noncomputable def Binds (K : PySem.W.Frag) (fd : FuncData) (ps : List Str) (ds : List Value) : Prop :=
  ∀ (s : Shared) (us : List Value), K.In s.heap → (us ++ ds).length = ps.length → BindsTo s fd ⟨us, []⟩ (ps.zip (us ++ ds))
theorem Binds.all {K : PySem.W.Frag} {fd : FuncData} {ps : List Str} (h : ∀ us : List Value, us.length = ps.length → bindArgs fd ⟨us, []⟩ = pure (ps.zip us)) : Binds K fd ps [] := fun s us _ hl => by
  rw [List.append_nil] at hl ⊢
  exact .of_eq (h us hl)

noncomputable def Passes (CX : CXT) (X : Cx) (E : XK) : Prop := ∀ (pins : List (Addr × Obj)) (σ : St) (H : Hp) (s : Shared) (e : Value) (s' : Shared), Inv X pins σ H s → CX X.stack H s E e s' → X.xe e s'

section
variable {X : Cx} {CX : CXT} {k : Nat} {f C : Addr} {fd : FuncData} {ps : List Str} {sp : Sp} {dvs : List V} {ds : List Value} {E : XK} {x m : Str} {p pos apos : Pos} {e o : Expr} {es : List Expr} {ta : TE} {t : TA}

theorem run_fn {pins : List (Addr × Obj)} {σ : St} {H : Hp} {s : Shared} {Q : VK} {us : List Value} {vs : List V} (F : FnOk X.prog X.w X.K X.mg X.base CX k f fd ps sp) (hr : Room k X.A) (hb : Binds X.K fd ps ds) (hd : Vals dvs ds) (hx : Passes CX X E)
    (I : Inv X pins σ H s) (r : Vals vs us) (h : sp (vs ++ dvs) H Q E) : wpAny (model X.prog X.w) X.A (call (.ref f) us) (EP X pins σ Q) X.xe s := by
  have r2 : Vals (vs ++ dvs) (us ++ ds) := r.append hd
  have hl : (us ++ ds).length = ps.length := by rw [← r2.length]; exact F.len _ _ _ _ h
  refine wpAny_call (codeAny_mono (F.run X.A X.stack s H ⟨us, []⟩ (us ++ ds) (vs ++ dvs) Q E hr I.env0 (hb s us I.kIn hl) r2 h) fun r s' hq => ?_)
  cases r with
  | error e => exact hx pins σ H s e s' I hq
  | ok fl =>
    cases fl with
    | ret u => exact I.after hq
    | next => exact False.elim hq
    | brk => exact False.elim hq
    | cont => exact False.elim hq

theorem pe_call (F : FnOk X.prog X.w X.K X.mg X.base CX k f fd ps sp) (hr : Room k X.A) (hg : Gl X x) (hm : X.mg x = some (.ref f)) (hk : PySem.W.keepIn X.K (.ref f) = true) (hb : Binds X.K fd ps ds) (hd : Vals dvs ds) (hx : Passes CX X E)
    (ha : PA X (e :: es) t) (hdb : (x == ("__debug__" : Str)) = false := by decide) (he : starEach (e :: es) X.env = (false, eval e X.env) :: starEach es X.env := by rfl) (hpl : (backTo pos (starEach es X.env)).any (·.1) = false := by rfl) :
    PE X (.Call (.Name x p) (e :: es) [] pos) (tCall sp dvs E t) := by
  intro pins s σ H Q I h
  refine wpAny_Call_Name_kw (ld_glob I hg hm ?_ hdb)
  refine PySem.W.callWith_K (h₀ := X.base) I.ok.mod.kin hk (thn (ha pos pins s σ H _ I h) fun us s1 ⟨vs, H1, I1, r, q⟩ => ⟨I1.kIn, ?_⟩) he hpl
  exact run_fn F hr hb hd hx I1 r q
theorem pe_meth {pl : Sem Bool} (he : PE X o ta) (c : Cls X.K C) (hm : Meth X.K C m f) (F : FnOk X.prog X.w X.K X.mg X.base CX k f fd ps sp) (hr : Room k X.A) (hb : Binds X.K fd ps ds) (hd : Vals dvs ds) (hx : Passes CX X E) (ha : PA X (e :: es) t)
    (hst : starEach (e :: es) X.env = (false, eval e X.env) :: starEach es X.env := by rfl) (hpl : (backTo pos (starEach es X.env)).any (·.1) = false := by rfl)
    (ht : eval (.Call (.Attribute o m apos) (e :: es) [] pos) X.env = (do
      let ov ← eval o X.env
      standAt apos.atName
      let (f, first) ← holding [ov] (getMethod ov m pl)
      callWith pos f first (backTo pos (starEach (e :: es) X.env)) (backToKw pos (keywordEach [] X.env))) := by rfl) :
    PE X (.Call (.Attribute o m apos) (e :: es) [] pos) (tMeth C m sp dvs E ta t) := by
  intro pins s σ H Q I h
  refine PySem.W.methodCall_KW (pl := pl) (thn (he pins s σ H _ I h) fun u s1 ⟨x, H1, I1, rx, a, dx, fs, ex, ea, l, q⟩ => ?_) ht
  subst ex
  obtain rfl : u = Value.ref a := rx
  refine getmeth_ok I1 ea c hm l ?_
  refine PySem.W.callWith_K (first := [.ref a]) (h₀ := X.base) I.ok.mod.kin hm.kp (thn (ha pos pins s1 σ H1 _ I1 q) fun us s2 ⟨vs, H2, I2, r, q2⟩ => ⟨I2.kIn, ?_⟩) hst hpl
  exact run_fn (us := .ref a :: us) (vs := .ref a :: vs) F hr hb hd hx I2 (.cons rfl r) q2
structure Mk (K : PySem.W.Frag) (C f : Addr) : Prop where
  makes : PySem.W.makesIn K C = true
  init : PySem.W.findIn K (.ref C) "__init__" = some (some (.ref f))
  fn : PySem.W.isFn K (.ref f) = true
  kp : PySem.W.keepIn K (.ref C) = true

theorem run_make {pins : List (Addr × Obj)} {σ : St} {H : Hp} {s : Shared} {Q : VK} {us : List Value} {vs : List V} (M : Mk X.K C f) (F : FnOk X.prog X.w X.K X.mg X.base CX k f fd ps sp) (hr : Room (k + 1) X.A) (hb : Binds X.K fd ps ds) (hd : Vals dvs ds)
    (hx : Passes CX X E) (I : Inv X pins σ H s) (r : Vals vs us)
    (h : ∀ x dx, H x = none → H dx = none → dx ≠ x → sp (.ref x :: (vs ++ dvs)) (upd (upd H dx (.own x)) x (.ins C dx [])) (fun v H2 => v = .non ∧ Q (.ref x) H2) E) :
    wpAny (model X.prog X.w) X.A (call (.ref C) us) (EP X pins σ Q) X.xe s := by
  have hq := h (s.heap.objs.size + 1) s.heap.objs.size (I.hok.fresh (Nat.le_succ _)) (I.hok.fresh (Nat.le_refl _)) (Nat.ne_of_lt (Nat.lt_succ_self _))
  have I2 := Inv.made (C := C) I
  have r2 : Vals (V.ref (s.heap.objs.size + 1) :: (vs ++ dvs)) (Value.ref (s.heap.objs.size + 1) :: (us ++ ds)) := .cons rfl (r.append hd)
  have hl : (Value.ref (s.heap.objs.size + 1) :: us ++ ds).length = ps.length := by
    have e := r2.length
    rw [F.len _ _ _ _ hq] at e
    exact e.symm
  refine wpAny_call (make_map (f := f) I.kIn M.makes M.init (beq_iff_eq.mp M.fn) (codeAny_mono (F.run _ X.stack _ _ ⟨Value.ref (s.heap.objs.size + 1) :: us, []⟩ (Value.ref (s.heap.objs.size + 1) :: (us ++ ds)) _ _ E (hr.make C us [])
    (I2.env0.make C us []) (hb _ (Value.ref (s.heap.objs.size + 1) :: us) I2.kIn hl) r2 hq) fun r s' hq' => ?_))
  cases r with
  | error e => exact hx pins σ _ _ e s' I2 hq'
  | ok fl =>
    cases fl with
    | ret u =>
      obtain ⟨v, H', I3, rv, ev, q3⟩ := I2.after hq'
      subst ev
      exact ⟨rv, ⟨V.ref (s.heap.objs.size + 1), H', I3, rfl, q3⟩⟩
    | next => exact False.elim hq'
    | brk => exact False.elim hq'
    | cont => exact False.elim hq'
theorem pe_make (M : Mk X.K C f) (F : FnOk X.prog X.w X.K X.mg X.base CX k f fd ps sp) (hr : Room (k + 1) X.A) (hg : Gl X x) (hm : X.mg x = some (.ref C)) (hb : Binds X.K fd ps ds) (hd : Vals dvs ds) (hx : Passes CX X E)
    (ha : PA X (e :: es) t) (hdb : (x == ("__debug__" : Str)) = false := by decide) (he : starEach (e :: es) X.env = (false, eval e X.env) :: starEach es X.env := by rfl) (hpl : (backTo pos (starEach es X.env)).any (·.1) = false := by rfl) :
    PE X (.Call (.Name x p) (e :: es) [] pos) (tMake C sp dvs E t) := by
  intro pins s σ H Q I h
  refine wpAny_Call_Name_kw (ld_glob I hg hm ?_ hdb)
  refine PySem.W.callWith_K (h₀ := X.base) I.ok.mod.kin M.kp (thn (ha pos pins s σ H _ I h) fun us s1 ⟨vs, H1, I1, r, q⟩ => ⟨I1.kIn, ?_⟩) he hpl
  exact run_make M F hr hb hd hx I1 r q
end

section
variable {X : Cx} {CX : CXT} {k : Nat} {f C : Addr} {fd : FuncData} {ps ks : List Str} {sp : Sp} {E : XK} {x m : Str} {p pos apos kpos : Pos} {e o : Expr} {es : List Expr} {kws : List Keyword} {te ta : TE} {t tk : TA} {nm : Option Str}
variable {g : List Value → List Value → List Value} {gV : List V → List V → List V}
end

structure FnScope (N P : List Str) (sc : Scope) : Prop where
  kind : sc.kind = .function
  co : sc.isCoroutine = false
  gen : sc.isGenerator = false
  nd : N.Nodup
  pre : N.take P.length = P
  par : ∀ x ∈ P, sc.names.lookup x = some .local ∨ sc.names.lookup x = some .cell
  nofree : ∀ y ∈ sc.names, y.2 ≠ .free

theorem bindL_out {kindOf : Str → Option NameKind} {x : Str} : ∀ {binds : List (Str × Value)} {m : Str → Option Value}, (∀ v, (x, v) ∉ binds) → bindL kindOf binds m x = m x
  | [], _, _ => rfl
  | (n, v) :: r, m, h => by
    unfold bindL
    rw [bindL_out fun w hw => h w (List.mem_cons_of_mem _ hw)]
    split
    · have : x ≠ n := by rintro rfl; exact h v List.mem_cons_self
      simp [this]
    · rfl
theorem bindC_out {kindOf : Str → Option NameKind} {x : Str} : ∀ {binds : List (Str × Value)} {m : Str → Option Value}, (∀ v, (x, v) ∉ binds) → bindC kindOf binds m x = m x
  | [], _, _ => rfl
  | (n, v) :: r, m, h => by
    unfold bindC
    rw [bindC_out fun w hw => h w (List.mem_cons_of_mem _ hw)]
    split
    · rfl
    · have : x ≠ n := by rintro rfl; exact h v List.mem_cons_self
      simp [this]
theorem bindL_get {kindOf : Str → Option NameKind} {x : Str} {v : Value} : ∀ {P : List Str} {vs : List Value} {i : Nat} {m : Str → Option Value}, P.Nodup → P[i]? = some x → vs[i]? = some v → kindOf x = some .local →
    bindL kindOf (P.zip vs) m x = some v
  | [], _, _, _, _, h, _, _ => by simp at h
  | _ :: _, [], _, _, _, _, h, _ => by simp at h
  | p :: P, w :: vs, 0, m, nd, h1, h2, hk => by
    simp at h1 h2; subst h1; subst h2
    show bindL kindOf ((p, w) :: P.zip vs) m p = _
    unfold bindL
    rw [bindL_out fun v hv => (List.nodup_cons.mp nd).1 (List.of_mem_zip hv).1, if_pos hk]
    simp
  | p :: P, w :: vs, i + 1, m, nd, h1, h2, hk => by
    show bindL kindOf ((p, w) :: P.zip vs) m x = _
    unfold bindL
    exact bindL_get (i := i) (List.nodup_cons.mp nd).2 (by simpa using h1) (by simpa using h2) hk
theorem bindC_get {kindOf : Str → Option NameKind} {x : Str} {v : Value} : ∀ {P : List Str} {vs : List Value} {i : Nat} {m : Str → Option Value}, P.Nodup → P[i]? = some x → vs[i]? = some v → kindOf x ≠ some .local →
    bindC kindOf (P.zip vs) m x = some v
  | [], _, _, _, _, h, _, _ => by simp at h
  | _ :: _, [], _, _, _, _, h, _ => by simp at h
  | p :: P, w :: vs, 0, m, nd, h1, h2, hk => by
    simp at h1 h2; subst h1; subst h2
    show bindC kindOf ((p, w) :: P.zip vs) m p = _
    unfold bindC
    rw [bindC_out fun v hv => (List.nodup_cons.mp nd).1 (List.of_mem_zip hv).1, if_neg hk]
    simp
  | p :: P, w :: vs, i + 1, m, nd, h1, h2, hk => by
    show bindC kindOf ((p, w) :: P.zip vs) m x = _
    unfold bindC
    exact bindC_get (i := i) (List.nodup_cons.mp nd).2 (by simpa using h1) (by simpa using h2) hk

noncomputable def start (N : List Str) (vs : List V) : St := vs.map some ++ List.replicate (N.length - vs.length) none

noncomputable def cxOf (CX : CXT) (P : Program) (w : World) (K : PySem.W.Frag) (mg : Str → Option Value) (base : Heap) (N : List Str) (qual : Str) (scope : Scope) (f : Addr) (cd : Value) (A : Around) (outer : List Env) (s : Shared) (H : Hp) (E : XK) : Cx where
  prog := P
  w := w
  K := K
  mg := mg
  base := base
  A := A.deeper (envOfC qual scope s.heap.objs.size f cd)
  N := N
  s₀ := s
  H₀ := H
  env := envOfC qual scope s.heap.objs.size f cd
  outer := outer
  stack := envOfC qual scope s.heap.objs.size f cd :: outer
  ex := []
  calm := true
  fn := fun _ => true
  pn := []
  xe := fun e s' => wpAny (model P w) (A.deeper (envOfC qual scope s.heap.objs.size f cd)) (leaving (envOfC qual scope s.heap.objs.size f cd) e) (fun _ s'' => CX outer H s E e s'') (fun e' s'' => CX outer H s E e' s'') s'

theorem cell_has {sc : Scope} {n : Nat} {x : Str} (h : sc.names.lookup x = some .cell) : ∃ c, (cellsFrom n sc.names []).lookup x = some c := by
  have q := PySem.W.cellsFrom_some sc.names n [] (.inl h)
  exact Option.isSome_iff_exists.mp q

theorem inv_start {CX : CXT} {P : Program} {w : World} {K : PySem.W.Frag} {mg : Str → Option Value} {base : Heap} {N ps : List Str} {qual : Str} {scope : Scope} {f : Addr} {cd : Value} {A : Around} {outer : List Env} {s s1 : Shared} {H : Hp} {E : XK} {us : List Value} {vs : List V}
    (S : FnScope N ps scope) (hd : A.handled = none) (e0 : Env0 P w K mg base A outer s H) (hl : vs.length = ps.length) (r : Vals vs us)
    (x : InCallC s s.heap.objs.size (bindL (envOfC qual scope s.heap.objs.size f cd).kindOf (ps.zip us) fun _ => none) (cellsFrom (s.heap.objs.size + 1) scope.names []) (bindC (envOfC qual scope s.heap.objs.size f cd).kindOf (ps.zip us) fun _ => none) s1) :
    Inv (cxOf CX P w K mg base N qual scope f cd A outer s H E) [] (start N vs) H s1 := by
  have hpl : ps.length ≤ N.length := by have := congrArg List.length S.pre; rw [List.length_take] at this; omega
  obtain ⟨h1, tk, rfl, hk⟩ := x.done
  have noA : ∀ b : Addr, b ∉ (cxOf CX P w K mg base N qual scope f cd A outer s H E).ex := fun b z => absurd (show b ∈ ([] : List Addr) from z) (by simp)
  refine ⟨⟨e0.mod, S.kind, rfl, rfl, Nat.le_refl _, fun y z c h1 h2 => ?_, fun y hy => ?_, fun y c _ h => ?_, fun _ => hd, Around.frames_deeper e0.frames, .inr ⟨rfl, rfl⟩, fun b z => absurd z (noA b), e0.bs, e0.bsz, fun b _ _ => noA b, fun b z => absurd z (noA b), e0.funs, e0.frf⟩,
    rfl, e0.bare, Un.kept hk, ⟨_, x.toInCall.ns, fun i y v h1 h2 h3 => ?_⟩, fun y c h => ⟨_, x.cell y c h⟩, e0.hok.fresh (Nat.le_refl _), fun y c h => ?_, fun p hp => absurd (show p ∈ ([] : List (Addr × Obj)) from hp) (by simp), e0.hok.kept hk, ?_⟩
  · exact name_of_addr x.apart (PySem.mem_of_lookup h1) (PySem.mem_of_lookup h2)
  · have hy : scope.names.lookup y = some .cell ∨ scope.names.lookup y = some .free := hy
    rcases hy with hy | hy
    · exact cell_has hy
    · exact absurd rfl (S.nofree _ (PySem.mem_of_lookup hy))
  · exact Nat.le_of_lt (x.above y c (PySem.mem_of_lookup h))
  · have hi : i < vs.length := by
      unfold start at h2
      by_cases hi : i < vs.length
      · exact hi
      · rw [List.getElem?_append_right (by simpa using hi)] at h2
        rw [List.getElem?_replicate] at h2
        split at h2 <;> cases h2
    have ha : vs[i]? = some v := by
      unfold start at h2
      rw [List.getElem?_append_left (by simpa using hi), List.getElem?_map] at h2
      cases e : vs[i]? with
      | none => rw [e] at h2; cases h2
      | some a => rw [e] at h2; cases h2; rfl
    obtain ⟨u, hu, rv⟩ := r.get ha
    have hp : ps[i]? = some y := by
      rw [← S.pre, List.getElem?_take_of_lt (by omega)]; exact h1
    have ndP : ps.Nodup := by rw [← S.pre]; exact S.nd.sublist (List.take_sublist _ _)
    refine ⟨u, rv, ?_⟩
    rcases S.par y (List.mem_of_getElem? hp) with k | k
    · exact .inl ⟨k, bindL_get ndP hp hu k⟩
    · obtain ⟨c, e⟩ := cell_has (n := s.heap.objs.size + 1) k
      refine .inr ⟨.inl k, c, e, ?_⟩
      have q := x.cell y c e
      rw [bindC_get ndP hp hu (by show scope.names.lookup y ≠ _; rw [k]; decide)] at q
      exact q
  · exact e0.hok.fresh (Nat.le_of_lt (x.above y c (PySem.mem_of_lookup h)))
  · unfold start
    show _ = N.length
    rw [List.length_append, List.length_map, List.length_replicate]
    omega

theorem fn_of {CX : CXT} {P : Program} {w : World} {K : PySem.W.Frag} {mg : Str → Option Value} {base : Heap} {k : Nat} {f : Addr} {name qual : Str} {params : Arguments} {body : List Stmt} {scope : Scope} {dV kV doc pm cdv ct oc : Value} {an od : Option Addr}
    {osl : Array (Option Value)} {N ps : List Str} {sp : Sp} (lk : K.lookup f = some ⟨oc, od, .func (PySem.W.fnOf name qual params body scope dV kV doc pm an cdv ct), osl⟩) (hcd : PySem.W.codeIn K cdv qual = true) (S : FnScope N ps scope)
    (len : ∀ vs H Q E, sp vs H Q E → vs.length = ps.length)
    (hbody : ∀ (A : Around) (outer : List Env) (s : Shared) (H : Hp) (vs : List V) (Q : VK) (E : XK), Room k (A.deeper (envOfC qual scope s.heap.objs.size f cdv)) → sp vs H Q E →
      ∃ t, PSs (cxOf CX P w K mg base N qual scope f cdv A outer s H E) body t ∧ t { nx := fun _ H' => Q .non H', rt := Q } (start N vs) H) :
    FnOk P w K mg base CX (k + 1) f (PySem.W.fnOf name qual params body scope dV kV doc pm an cdv ct) ps sp := by
  refine ⟨len, fun A outer s H args us vs Q E hr e0 hb r hsp => ?_⟩
  have hl := len _ _ _ _ hsp
  have KX : K.In s.heap := e0.mod.kin.keeps fun b o e => (e0.bs b o e).1
  have lim : s.heap.NoLimit := e0.mod.nolimit.keeps fun b o e => (e0.bs b o e).1
  have hkind : ∀ y ∈ ps.zip us, scope.names.lookup y.1 = some .local ∨ (scope.names.lookup y.1 = some .cell ∧ ((cellsFrom (s.heap.objs.size + 1) scope.names []).lookup y.1).isSome = true) := fun ⟨n, v⟩ hy => by
    rcases S.par n (List.of_mem_zip hy).1 with q | q
    · exact .inl q
    · exact .inr ⟨q, PySem.W.cellsFrom_some _ _ _ (.inl q)⟩
  refine codeAny_call_function hr.depth (KX _ _ lk) rfl S.co S.gen rfl (PySem.W.codeRec_of KX hcd) (hb _ _ _ _ ?_)
  refine wpAny_newFunctionEnv_cells S.kind hkind fun env he s1 x => ?_
  subst he
  refine ⟨lim.keeps x.toInCall.keep, codeAny_func ?_⟩
  obtain ⟨t, ht, hq⟩ := hbody A outer s H vs Q E (hr.deeper _) hsp
  have I : Inv (cxOf CX P w K mg base N qual scope f cdv A outer s H E) [] (start N vs) H s1 := inv_start S hr.hd e0 hl r x
  refine wpAny_mono (ht [] s1 (start N vs) H _ I hq) (fun fl s' hs => ?_) fun e s' hs => hs
  have fin : ∀ {σ' : St} {H' : Hp} {v : V} {u : Value}, Inv (cxOf CX P w K mg base N qual scope f cdv A outer s H E) [] σ' H' s' → RelV v u → Q v H' → CE outer P w H s Q u s' :=
    fun {σ' H' v u} J rv q => ⟨v, H', J.os, J.bare, J.base, J.hok, rv, q⟩
  cases fl with
  | ret u =>
    obtain ⟨v, σ', H', J, rv, q⟩ := hs
    exact fin J rv q
  | next =>
    obtain ⟨σ', H', J, q⟩ := hs
    exact fin (v := V.non) (u := Value.none) J rfl q
  | brk =>
    obtain ⟨_, _, _, q⟩ := hs
    exact False.elim q
  | cont =>
    obtain ⟨_, _, _, q⟩ := hs
    exact False.elim q
end L2

namespace L2
open PySem PySem.Spec PyProof.Rows
section
variable {X : Cx} {x : Str} {p pos : Pos} {e : Expr} {es : List Expr} {t : TA} {id T : String} {r : List V → Hp → VK → Prop}

noncomputable def tCB (r : List V → Hp → VK → Prop) (t : TA) : TE := fun σ H Q => t σ H fun vs H1 => r vs H1 Q
theorem pe_callB (hc : CallR X (.builtin id) r) (hg : Gl X x) (hm : X.mg x = none) (hv : bootBuiltins x = some (.builtin id)) (ha : PA X (e :: es) t) (hn : x ≠ "__name__" := by decide) (hdb : (x == ("__debug__" : Str)) = false := by decide)
    (he : starEach (e :: es) X.env = (false, eval e X.env) :: starEach es X.env := by rfl) (hpl : (backTo pos (starEach es X.env)).any (·.1) = false := by rfl) : PE X (.Call (.Name x p) (e :: es) [] pos) (tCB r t) := by
  intro pins s σ H Q I h
  refine wpAny_Call_Name_kw (ld_blt I hg hm hv ?_ hn hdb)
  exact PyProof.Rows.callWith_builtin1 (thn (ha pos pins s σ H _ I h) fun us s1 ⟨vs, H1, I1, r1, q1⟩ => hc pins s1 σ H1 vs us Q I1 r1 q1) he hpl
theorem pe_callTy (hc : CallR X (.type T) r) (hg : Gl X x) (hm : X.mg x = none) (hv : bootBuiltins x = some (.type T)) (ha : PA X (e :: es) t) (hn : x ≠ "__name__" := by decide) (hdb : (x == ("__debug__" : Str)) = false := by decide)
    (he : starEach (e :: es) X.env = (false, eval e X.env) :: starEach es X.env := by rfl) (hpl : (backTo pos (starEach es X.env)).any (·.1) = false := by rfl) : PE X (.Call (.Name x p) (e :: es) [] pos) (tCB r t) := by
  intro pins s σ H Q I h
  refine wpAny_Call_Name_kw (ld_blt I hg hm hv ?_ hn hdb)
  exact PyProof.Rows.callWith_type1 (thn (ha pos pins s σ H _ I h) fun us s1 ⟨vs, H1, I1, r1, q1⟩ => hc pins s1 σ H1 vs us Q I1 r1 q1) he hpl
end
end L2

namespace L2
open PySem PySem.Spec PyProof.Rows

section
variable {κ : Type} [DecidableEq κ]
noncomputable def valV (kvs : List (κ × V)) (k : κ) : Option V := (kvs.find? fun kv => decide (kv.1 = k)).map (·.2)
noncomputable def putK (kvs : List (κ × V)) (k : κ) (v : V) : List (κ × V) :=
  if (kvs.any fun kv => decide (kv.1 = k)) = true then kvs.map (fun kv => if kv.1 = k then (kv.1, v) else kv) else kvs ++ [(k, v)]
noncomputable def dropK (kvs : List (κ × V)) (k : κ) : List (κ × V) := kvs.filter fun kv => decide (kv.1 ≠ k)

theorem valV_pos {p : κ × V} {r : List (κ × V)} {k : κ} (e : p.1 = k) : valV (p :: r) k = some p.2 := by simp [valV, List.find?_cons, e]
theorem valV_neg {p : κ × V} {r : List (κ × V)} {k : κ} (e : ¬ p.1 = k) : valV (p :: r) k = valV r k := by simp [valV, List.find?_cons, e]
theorem valV_any (k : κ) : ∀ kvs : List (κ × V), (kvs.any fun kv => decide (kv.1 = k)) = (valV kvs k).isSome
  | [] => rfl
  | p :: r => by
    rw [List.any_cons]
    by_cases e : p.1 = k
    · simp only [valV_pos e, decide_eq_true e, Bool.true_or, Option.isSome_some]
    · rw [valV_neg e, decide_eq_false e, Bool.false_or]; exact valV_any k r
theorem RelO.isSome_eq {o : Option V} {u : Option Value} (r : RelO o u) : o.isSome = u.isSome := by
  cases o with
  | none => cases u with
    | none => rfl
    | some _ => exact (show False from r).elim
  | some _ => cases u with
    | none => exact (show False from r).elim
    | some _ => rfl
theorem RelO.getD {o : Option V} {u : Option Value} {d : V} {d' : Value} (r : RelO o u) (rd : RelV d d') : RelV (o.getD d) (u.getD d') := by
  cases o with
  | none => cases u with
    | none => exact rd
    | some _ => exact (show False from r).elim
  | some _ => cases u with
    | none => exact (show False from r).elim
    | some _ => exact r

theorem KV.val {kvs : List (κ × V)} {vs : List (κ × Value)} (r : KV kvs vs) (k : κ) : RelO (valV kvs k) (valueAt vs k) := by
  unfold KV at r
  induction r with
  | nil => exact True.intro
  | @cons p q ps qs h t ih =>
    obtain ⟨h1, h2⟩ := h
    by_cases e : p.1 = k
    · have e' : q.1 = k := h1.symm.trans e
      have b : valueAt (q :: qs) k = some q.2 := by simp [valueAt, List.find?_cons, e']
      rw [valV_pos e, b]; exact h2
    · have e' : ¬ q.1 = k := fun z => e (h1.trans z)
      have b : valueAt (q :: qs) k = valueAt qs k := by simp [valueAt, List.find?_cons, e']
      rw [valV_neg e, b]; exact ih
theorem KV.any {kvs : List (κ × V)} {vs : List (κ × Value)} (r : KV kvs vs) (k : κ) : (kvs.any fun kv => decide (kv.1 = k)) = vs.any fun kv => decide (kv.1 = k) := by
  unfold KV at r
  induction r with
  | nil => rfl
  | cons h t ih => rw [List.any_cons, List.any_cons, ih, h.1]
theorem KV.repl {kvs : List (κ × V)} {vs : List (κ × Value)} (r : KV kvs vs) (k : κ) {y : V} {u : Value} (ry : RelV y u) :
    KV (kvs.map fun kv => if kv.1 = k then (kv.1, y) else kv) (vs.map fun kv => if kv.1 = k then (kv.1, u) else kv) := by
  unfold KV at r ⊢
  induction r with
  | nil => exact .nil
  | @cons p q ps qs h t ih =>
    rw [List.map_cons, List.map_cons]
    refine .cons ?_ ih
    obtain ⟨h1, h2⟩ := h
    by_cases e : p.1 = k
    · rw [if_pos e, if_pos (h1.symm.trans e)]; exact ⟨h1, ry⟩
    · rw [if_neg e, if_neg (fun z => e (h1.trans z))]; exact ⟨h1, h2⟩
theorem KV.put {kvs : List (κ × V)} {vs : List (κ × Value)} (r : KV kvs vs) (k : κ) {y : V} {u : Value} (ry : RelV y u) : KV (putK kvs k y) (stored vs k u) := by
  unfold putK stored
  rw [r.any k]
  by_cases e : (vs.any fun kv => decide (kv.1 = k)) = true
  · rw [if_pos e, if_pos e]; exact r.repl k ry
  · rw [if_neg e, if_neg e]; exact Paired.snoc r ⟨rfl, ry⟩
theorem KV.drop {kvs : List (κ × V)} {vs : List (κ × Value)} (r : KV kvs vs) (k : κ) : KV (dropK kvs k) (without vs k) := by
  unfold KV at r ⊢
  unfold dropK without
  induction r with
  | nil => exact .nil
  | @cons p q ps qs h t ih =>
    obtain ⟨h1, h2⟩ := h
    rw [List.filter_cons, List.filter_cons]
    by_cases e : p.1 = k
    · have a : ¬ decide (p.1 ≠ k) = true := by simp [e]
      have b : ¬ decide (q.1 ≠ k) = true := by simp [h1.symm.trans e]
      rw [if_neg a, if_neg b]; exact ih
    · have e' : ¬ q.1 = k := fun z => e (h1.trans z)
      have a : decide (p.1 ≠ k) = true := by simp [e]
      have b : decide (q.1 ≠ k) = true := by simp [e']
      rw [if_pos a, if_pos b]; exact .cons ⟨h1, h2⟩ ih
theorem KV.keys {kvs : List (κ × V)} {vs : List (κ × Value)} (r : KV kvs vs) : kvs.map (·.1) = vs.map (·.1) := by
  unfold KV at r
  induction r with
  | nil => rfl
  | cons h t ih => rw [List.map_cons, List.map_cons, ih, h.1]
theorem KV.length {kvs : List (κ × V)} {vs : List (κ × Value)} (r : KV kvs vs) : kvs.length = vs.length := Paired.length r
end


noncomputable abbrev KT (H : Hp) : List (List Key × V) → List (List Key × Addr × Value) → Prop := Paired fun p q => p.1 = q.1 ∧ H q.2.1 = some (.tup (p.1.map kV)) ∧ RelV p.2 q.2.2
theorem KT.val {H : Hp} {kvs : List (List Key × V)} {xs : List (List Key × Addr × Value)} (r : KT H kvs xs) (k : List Key) : RelO (valV kvs k) ((atKey xs k).map (·.2)) := by
  induction r with
  | nil => exact True.intro
  | @cons p q ps qs h t ih =>
    obtain ⟨h1, _, h2⟩ := h
    by_cases e : p.1 = k
    · have e' : q.1 = k := h1.symm.trans e
      have b : atKey (q :: qs) k = some q.2 := by simp [atKey, List.find?_cons, e']
      rw [valV_pos e, b]; exact h2
    · have e' : ¬ q.1 = k := fun z => e (h1.trans z)
      have b : atKey (q :: qs) k = atKey qs k := by simp [atKey, List.find?_cons, e']
      rw [valV_neg e, b]; exact ih
theorem KT.repl {H : Hp} {kvs : List (List Key × V)} {xs : List (List Key × Addr × Value)} (r : KT H kvs xs) (k : List Key) {y : V} {u : Value} (ry : RelV y u) :
    KT H (kvs.map fun kv => if kv.1 = k then (kv.1, y) else kv) (xs.map (putAt k u)) := by
  induction r with
  | nil => exact .nil
  | @cons p q ps qs h t ih =>
    rw [List.map_cons, List.map_cons]
    refine .cons ?_ ih
    obtain ⟨h1, h2, h3⟩ := h
    unfold putAt
    by_cases e : p.1 = k
    · rw [if_pos e, if_pos (h1.symm.trans e)]; exact ⟨h1, h2, ry⟩
    · rw [if_neg e, if_neg (fun z => e (h1.trans z))]; exact ⟨h1, h2, h3⟩
theorem KT.put {H : Hp} {kvs : List (List Key × V)} {xs : List (List Key × Addr × Value)} (r : KT H kvs xs) (k : List Key) {b : Addr} {y : V} {u : Value} (hb : H b = some (.tup (k.map kV))) (ry : RelV y u) :
    KT H (putK kvs k y) (storedH xs k b u) := by
  have e : (kvs.any fun kv => decide (kv.1 = k)) = (atKey xs k).isSome := by
    rw [valV_any, (r.val k).isSome_eq, Option.isSome_map]
  unfold putK storedH
  rw [e]
  by_cases q : (atKey xs k).isSome = true
  · rw [if_pos q, if_pos q]; exact r.repl k ry
  · rw [if_neg q, if_neg q]; exact Paired.snoc r ⟨rfl, hb, ry⟩
theorem KT.keeps {H H' : Hp} {kvs : List (List Key × V)} {xs : List (List Key × Addr × Value)} (r : KT H kvs xs) (ht : ∀ b ys, H b = some (.tup ys) → H' b = some (.tup ys)) : KT H' kvs xs :=
  Paired.mapP r fun _ _ z => ⟨z.1, ht _ _ z.2.1, z.2.2⟩

section
variable {P : Program} {w : World} {H : Hp} {h : Heap} {a : Addr}
end

noncomputable def DGet (H : Hp) (a : Addr) (y : V) (r : Option V) : Prop :=
  (∃ kvs k, Rd H a (.dK kvs) ∧ y = kV k ∧ r = valV kvs k) ∨ ∃ kvs k b, Rd H a (.dT kvs) ∧ y = .ref b ∧ H b = some (.tup (k.map kV)) ∧ r = valV kvs k
noncomputable def DPut (H : Hp) (a : Addr) (y v : V) (H' : Hp) : Prop :=
  (∃ kvs k, H a = some (.dK kvs) ∧ y = kV k ∧ kvs.length < sizeLine ∧ H' = upd H a (.dK (putK kvs k v))) ∨
  ∃ kvs k b, H a = some (.dT kvs) ∧ y = .ref b ∧ H b = some (.tup (k.map kV)) ∧ kvs.length < sizeLine ∧ H' = upd H a (.dT (putK kvs k v))
theorem DGet.k {H : Hp} {a : Addr} {kvs : List (Key × V)} {k : Key} (e : H a = some (.dK kvs)) : DGet H a (kV k) (valV kvs k) := .inl ⟨kvs, k, .inl e, rfl, rfl⟩
theorem DGet.t {H : Hp} {a b : Addr} {kvs : List (List Key × V)} {k : List Key} (e : H a = some (.dT kvs)) (eb : H b = some (.tup (k.map kV))) : DGet H a (.ref b) (valV kvs k) := .inr ⟨kvs, k, b, .inl e, rfl, eb, rfl⟩
theorem DPut.k {H : Hp} {a : Addr} {kvs : List (Key × V)} {k : Key} {v : V} (e : H a = some (.dK kvs)) (hl : kvs.length < sizeLine) : DPut H a (kV k) v (upd H a (.dK (putK kvs k v))) := .inl ⟨kvs, k, e, rfl, hl, rfl⟩
theorem DPut.t {H : Hp} {a b : Addr} {kvs : List (List Key × V)} {k : List Key} {v : V} (e : H a = some (.dT kvs)) (eb : H b = some (.tup (k.map kV))) (hl : kvs.length < sizeLine) :
    DPut H a (.ref b) v (upd H a (.dT (putK kvs k v))) := .inr ⟨kvs, k, b, e, rfl, eb, hl, rfl⟩


section
variable {X : Cx} {pins : List (Addr × Obj)} {σ : St} {H : Hp} {s : Shared} {a : Addr} {y v : V} {u r : Value} {o : Option V} {A : Around} {E : Value → Shared → Prop}

end

section
variable {X : Cx} {pins : List (Addr × Obj)} {σ : St} {H : Hp} {s : Shared} {a : Addr} {kvs : List (Key × V)} {k : Key} {u : Value} {A : Around} {E : Value → Shared → Prop}
end


section
variable {X : Cx} {o i e value : Expr} {pos pos' tpos : Pos} {td ty tv : TE}
end


section
variable {X : Cx} {pos : Pos}
end

noncomputable def mergeK (kvs more : List (Key × V)) : List (Key × V) := more.foldl (fun acc kv => putK acc kv.1 kv.2) kvs
theorem KV.merge : ∀ {more : List (Key × V)} {rs : List (Key × Value)} {kvs : List (Key × V)} {vs : List (Key × Value)}, KV more rs → KV kvs vs → KV (mergeK kvs more) (merged vs rs) := by
  intro more rs kvs vs r
  unfold KV at r
  induction r generalizing kvs vs with
  | nil => intro q; exact q
  | @cons p q ps qs h t ih =>
    intro r0
    have e : KV (putK kvs p.1 p.2) (stored vs q.1 q.2) := by
      have := r0.put p.1 h.2
      rw [← h.1]; exact this
    exact ih e
section
variable {X : Cx} {pins : List (Addr × Obj)} {σ : St} {H : Hp} {s : Shared} {a : Addr} {y d : V} {u r : Value} {o : Option V} {A : Around} {E : Value → Shared → Prop}
end

section
variable {X : Cx} {o e f : Expr} {apos cpos : Pos} {td ty tx : TE}
end

section
variable {X : Cx} {pins : List (Addr × Obj)} {σ : St} {H : Hp} {s : Shared} {a : Addr} {kvs : List (Key × V)} {A : Around} {E : Value → Shared → Prop}
end


section
variable {X : Cx} {pins : List (Addr × Obj)} {σ : St} {H : Hp} {s : Shared} {a : Addr} {y : V} {u : Value} {A : Around} {E : Value → Shared → Prop}
end
end L2

namespace HT
open PySem PyProof.Rows

section
open PySem.SeqAt
open PySem.AutoSeq1 (wpAny_loadPart')
open PySem.MeetsSeq PySem.MeetsSeq2 PySem.MeetsSeq3

end

section
variable {prog : Program} {w : World} {A : Around} {E : Value → Shared → Prop} {s : Shared}

noncomputable def sIx (n d : Nat) : Option Int → Nat
  | none => d
  | some v => if v < 0 then (v + (n : Int)).toNat else min v.toNat n
theorem sIx_nat (n d k : Nat) : sIx n d (some (k : Int)) = min k n := by
  show (if (k : Int) < 0 then ((k : Int) + (n : Int)).toNat else min (k : Int).toNat n) = min k n
  rw [if_neg (by omega), Int.toNat_natCast]
end
end HT

namespace L2
open PySem PySem.Spec PyProof.Rows

noncomputable abbrev TO := St → Hp → (Option Int → Hp → Prop) → Prop
noncomputable def PO (X : Cx) (e : Option Expr) (t : TO) : Prop :=
  ∀ (pins : List (Addr × Obj)) (s : Shared) (σ : St) (H : Hp) (Q : Option Int → Hp → Prop), Inv X pins σ H s → t σ H Q →
    wpAny (model X.prog X.w) X.A (evalPart e X.env) (fun u s' => ∃ o H', Inv X pins σ H' s' ∧ IsPart u o ∧ Q o H') X.xe s
noncomputable def tNoPart : TO := fun _ H Q => Q none H
noncomputable def tPart (t : TE) : TO := fun σ H Q => t σ H fun x H1 => ∃ i, x = .int i ∧ Q (some i) H1

theorem intsAre_of {ns : List Int} : ∀ {us : List Value}, Vals (ns.map V.int) us → IntsAre us ns := by
  induction ns with
  | nil => intro us r; rw [List.map_nil] at r; cases r; exact .nil
  | cons n ns ih =>
    intro us r
    rw [List.map_cons] at r
    cases r with
    | cons r1 r2 =>
      obtain ⟨t, e⟩ := r1
      subst e
      exact .cons n t (ih r2)

section
variable {X : Cx} {e : Expr} {te : TE} {lo hi : Option Expr} {tl th : TO} {pos p2 : Pos}

theorem po_none : PO X none tNoPart := by
  intro pins s σ H Q I h
  rw [evalPart_none]
  exact wpAny_pure ⟨none, H, I, .none, h⟩
theorem po_some (h : PE X e te) : PO X (some e) (tPart te) := by
  intro pins s σ H Q I hw
  rw [evalPart_some]
  refine thn (h pins s σ H _ I hw) fun u s1 ⟨x, H1, I1, r1, q1⟩ => ?_
  obtain ⟨i, rfl, q⟩ := q1
  obtain ⟨t, rfl⟩ := r1
  exact ⟨some i, H1, I1, .int i t, q⟩

noncomputable def SlR (X : Cx) (r : V → Option Int → Option Int → Hp → VK → Prop) : Prop :=
  ∀ (pins : List (Addr × Obj)) (s : Shared) (σ : St) (H : Hp) (x : V) (v vl vu : Value) (lo hi : Option Int) (sl : Addr) (Q : VK), Inv X pins σ H s → RelV x v → s.heap.IsSliceOf sl vl vu .none → IsPart vl lo → IsPart vu hi → r x lo hi H Q →
    ∃ T id, typeLookup (.type T) "__getitem__" = pure (some (.builtin id)) ∧ s.TypeIs v T ∧ wpAny (model X.prog X.w) X.A (getItem v (.ref sl)) (EP X pins σ Q) X.xe s
theorem SlR.or {r r' : V → Option Int → Option Int → Hp → VK → Prop} (h : SlR X r) (h' : SlR X r') : SlR X (fun x lo hi H Q => r x lo hi H Q ∨ r' x lo hi H Q) := by
  intro pins s σ H x v vl vu lo hi sl Q I rx hs pl pu q
  rcases q with q | q
  · exact h pins s σ H x v vl vu lo hi sl Q I rx hs pl pu q
  · exact h' pins s σ H x v vl vu lo hi sl Q I rx hs pl pu q
noncomputable def tSl (r : V → Option Int → Option Int → Hp → VK → Prop) (te : TE) (tl th : TO) : TE := fun σ H Q => te σ H fun x H1 => tl σ H1 fun l H2 => th σ H2 fun u H3 => r x l u H3 Q
theorem pe_slice {r : V → Option Int → Option Int → Hp → VK → Prop} (hr : SlR X r) (he : PE X e te) (hl : PO X lo tl) (hu : PO X hi th) : PE X (.Subscript e (.Slice lo hi none p2) pos) (tSl r te tl th) := by
  intro pins s σ H Q I h
  refine Subscript_ (thn (he pins s σ H _ I h) fun v s1 ⟨x, H1, I1, r1, q1⟩ => ?_)
  refine wpAny_Slice (thn (hl pins s1 σ H1 _ I1 q1) fun vl s2 ⟨l, H2, I2, pl, q2⟩ => thn (hu pins s2 σ H2 _ I2 q2) fun vu s3 ⟨u, H3, I3, pu, q3⟩ => ?_)
  rw [evalPart_none]
  refine wpAny_pure ?_
  have I4 : Inv X pins σ H3 { s3 with heap := s3.heap.push { cls := .type "slice", data := .fields #[vl, vu, .none] } } := I3.kept (t' := s3.toks) fun b ob q => Heap.get?_push_of_some _ q
  obtain ⟨T, id, hT, ht, hg⟩ := hr pins { s3 with heap := s3.heap.push { cls := .type "slice", data := .fields #[vl, vu, .none] } } σ H3 x v vl vu l u s3.heap.objs.size Q I4 r1 (Heap.IsSliceOf.new ..) pl pu q3
  show wpAny (model X.prog X.w) X.A (subscriptTail e (.Slice lo hi none p2) v (.ref s3.heap.objs.size)) (EP X pins σ Q) X.xe { s3 with heap := s3.heap.push { cls := .type "slice", data := .fields #[vl, vu, .none] } }
  exact tail_any (ops := [.ref s3.heap.objs.size, v]) ht hT hg (by with_unfolding_all rfl)

noncomputable def cutV (xs : List V) (lo hi : Option Int) : List V := (xs.drop (HT.sIx xs.length 0 lo)).take (HT.sIx xs.length xs.length hi - HT.sIx xs.length 0 lo)
theorem cutV_length (xs : List V) (lo hi : Option Int) : (cutV xs lo hi).length ≤ xs.length := by
  unfold cutV
  rw [List.length_take, List.length_drop]
  omega
end
end L2

namespace L2
open PySem PySem.Spec PyProof.Rows

noncomputable def ixN (n : Nat) (i : Int) : Option Nat := if 0 ≤ i then (if i < n then some i.toNat else none) else if -(n : Int) ≤ i then some (i + n).toNat else none
noncomputable def atI {α : Type} (xs : List α) (i : Int) : Option α := (ixN xs.length i).bind fun j => xs[j]?
theorem ixN_seq {n : Nat} {i : Int} {j : Nat} (h : ixN n i = some j) : seqIndex? i n = some j ∧ j < n ∧ -(n : Int) ≤ i ∧ i < n := by
  unfold ixN at h
  by_cases h0 : 0 ≤ i
  · rw [if_pos h0] at h
    by_cases h1 : i < n
    · rw [if_pos h1] at h
      have e : i.toNat = j := Option.some.inj h
      exact ⟨by rw [seqIndex_of h0 h1, e], by omega, by omega, h1⟩
    · rw [if_neg h1] at h; cases h
  · rw [if_neg h0] at h
    by_cases h1 : -(n : Int) ≤ i
    · rw [if_pos h1] at h
      have e : (i + n).toNat = j := Option.some.inj h
      exact ⟨by rw [seqIndex_neg (by omega) h1, e], by omega, h1, by omega⟩
    · rw [if_neg h1] at h; cases h
theorem atI_get {α : Type} {xs : List α} {i : Int} {v : α} (h : atI xs i = some v) : ∃ j, seqIndex? i xs.length = some j ∧ xs[j]? = some v ∧ j < xs.length ∧ -(xs.length : Int) ≤ i ∧ i < xs.length := by
  unfold atI at h
  cases e : ixN xs.length i with
  | none => rw [e] at h; cases h
  | some j =>
    rw [e] at h
    obtain ⟨h1, h2, h3, h4⟩ := ixN_seq e
    exact ⟨j, h1, h, h2, h3, h4⟩
theorem atI_nat {α : Type} {xs : List α} {j : Nat} {v : α} (h : xs[j]? = some v) : atI xs (j : Int) = some v := by
  have hj : j < xs.length := (List.getElem?_eq_some_iff.mp h).1
  have e : ixN xs.length (j : Int) = some j := by
    unfold ixN
    rw [if_pos (by omega), if_pos (by omega)]; simp
  unfold atI; rw [e]; exact h
noncomputable def PlainIx (b : Expr) : Prop := ∀ o i, subscripted b false o i = operate [o, i] (getItem o i)
noncomputable def IxR (X : Cx) (r : R2) : Prop :=
  ∀ (value slice : Expr) (pins : List (Addr × Obj)) (s : Shared) (σ : St) (H : Hp) (x y : V) (v u : Value) (Q : VK), Inv X pins σ H s → RelV x v → RelV y u → r x y H Q →
    subscripted slice false v u = operate [v, u] (getItem v u) → wpAny (model X.prog X.w) X.A (subscriptTail value slice v u) (EP X pins σ Q) X.xe s
noncomputable def MtR (X : Cx) (id : String) (r : V → List V → Hp → VK → Prop) : Prop :=
  ∀ (pins : List (Addr × Obj)) (s : Shared) (σ : St) (H : Hp) (x : V) (xs : List V) (v : Value) (us : List Value) (Q : VK), Inv X pins σ H s → RelV x v → Vals xs us → r x xs H Q →
    wpAny (model X.prog X.w) X.A (call (.builtin id) (v :: us)) (EP X pins σ Q) X.xe s
section
variable {X : Cx} {a b : Expr} {ta tb : TE} {pos : Pos}
theorem IxR.or {r r' : R2} (h : IxR X r) (h' : IxR X r') : IxR X (fun x y H Q => r x y H Q ∨ r' x y H Q) := by
  intro value slice pins s σ H x y v u Q I rx ry q hs
  rcases q with q | q
  · exact h value slice pins s σ H x y v u Q I rx ry q hs
  · exact h' value slice pins s σ H x y v u Q I rx ry q hs
theorem MtR.or {id : String} {r r' : V → List V → Hp → VK → Prop} (h : MtR X id r) (h' : MtR X id r') : MtR X id (fun x xs H Q => r x xs H Q ∨ r' x xs H Q) := by
  intro pins s σ H x xs v us Q I rx rs q
  rcases q with q | q
  · exact h pins s σ H x xs v us Q I rx rs q
  · exact h' pins s σ H x xs v us Q I rx rs q
theorem pe_ix {r : R2} (hr : IxR X r) (ha : PE X a ta) (hb : PE X b tb) (hs : PlainIx b) : PE X (.Subscript a b pos) (tOp r ta tb) := by
  intro pins s σ H Q I h
  exact Subscript_ (binT ha hb I h fun v u s2 x y H2 I2 rx ry q => hr a b pins s2 σ H2 x y v u Q I2 rx ry q (hs _ _))

noncomputable def rIxL (K : PySem.W.Frag) : R2 := fun x y H Q => ∃ p xs i v, x = .ref p ∧ y = .int i ∧ SqL K H p xs ∧ atI xs i = some v ∧ Q v H
noncomputable def rIxT (K : PySem.W.Frag) : R2 := fun x y H Q => ∃ p xs i v, x = .ref p ∧ y = .int i ∧ SqT K H p xs ∧ atI xs i = some v ∧ Q v H
theorem ix_list : IxR X (rIxL X.K) := by
  intro value slice pins s σ H x y v u Q I rx ry h hs
  obtain ⟨p, xs, i, z, rfl, rfl, hq, he, q⟩ := h
  cases rx
  obtain ⟨t, rfl⟩ := ry
  obtain ⟨its, r, pl, hz⟩ := I.list hq
  obtain ⟨j, h1, h2, h3, h4, h5⟩ := atI_get he
  obtain ⟨w, ew, rw'⟩ := r.get h2
  have hl := r.length
  have hn := line63
  have fin : EP X pins σ Q w s := ⟨z, H, I, rw', q⟩
  by_cases h0 : 0 ≤ i
  · have hj : i.toNat = j := by
      rw [seqIndex_of h0 h5] at h1
      exact Option.some.inj h1
    exact item_listR pl.isList h0 (by omega) (by rw [hj]; simpa using ew) fin hs
  · have hj : (i + (its.toArray.size : Int)).toNat = j := by
      rw [seqIndex_neg (by omega) h4] at h1
      rw [List.size_toArray, ← hl]
      exact Option.some.inj h1
    exact subscriptTail_builtinR (x := w) pl.isList.typeIs slot_list_getitem.lookup
      (wpAny_getItem_list_neg (Q := fun r s' => r = w ∧ EP X pins σ Q r s') pl.isList (by omega) (by rw [List.size_toArray] <;> omega) (by omega) (by rw [hj]; simpa using ew) ⟨rfl, fin⟩) hs
theorem ix_tup : IxR X (rIxT X.K) := by
  intro value slice pins s σ H x y v u Q I rx ry h hs
  obtain ⟨p, xs, i, z, rfl, rfl, hq, he, q⟩ := h
  cases rx
  obtain ⟨t, rfl⟩ := ry
  obtain ⟨its, r, pl, hz⟩ := I.tuple hq
  obtain ⟨j, h1, h2, h3, h4, h5⟩ := atI_get he
  obtain ⟨w, ew, rw'⟩ := r.get h2
  have hl := r.length
  have hn := line63
  have fin : EP X pins σ Q w s := ⟨z, H, I, rw', q⟩
  exact subscriptTail_builtinR (x := w) pl.typeIs slot_tuple_getitem.lookup
    (getItem_tuple (j := j) (Q := fun r s' => r = w ∧ EP X pins σ Q r s') pl (by omega) (by omega) (by rw [List.size_toArray, ← hl]; exact h1) (by simpa using ew) ⟨rfl, fin⟩) hs
theorem mapSeq_set (its : List Value) (n j : Nat) (u : Value) : Obj.mapSeq (·.setIfInBounds j u) { cls := .type "list", data := .seq its.toArray n } = { cls := .type "list", data := .seq (its.set j u).toArray n } := by
  simp [Obj.mapSeq]
theorem Inv.lst {pins : List (Addr × Obj)} {σ : St} {H : Hp} {s : Shared} {p : Addr} {xs : List V} (I : Inv X pins σ H s) (h : H p = some (.lst xs)) :
    ∃ (its : List Value) (n : Nat), Vals xs its ∧ s.heap.get? p = some { cls := .type "list", data := .seq its.toArray n } ∧ xs.length ≤ sizeLine := by
  obtain ⟨z, its, n, r, e⟩ := I.hok p _ h
  exact ⟨its, n, r, e, z⟩
theorem Inv.lstUpd {pins : List (Addr × Obj)} {σ : St} {H : Hp} {s : Shared} {p : Addr} {xs ys : List V} {its its' : List Value} {n n' : Nat} {f : Obj → Obj} (I : Inv X pins σ H s) (h : H p = some (.lst xs))
    (ho : s.heap.get? p = some { cls := .type "list", data := .seq its.toArray n }) (hf : f { cls := .type "list", data := .seq its.toArray n } = { cls := .type "list", data := .seq its'.toArray n' }) (r : Vals ys its') (hz : ys.length ≤ sizeLine) (t : Nat) :
    Inv X pins σ (upd H p (.lst ys)) { s with heap := s.heap.update p f, toks := t } := by
  have e : (s.heap.update p f).get? p = some { cls := .type "list", data := .seq its'.toArray n' } := by
    rw [Heap.get?_update_self f ho (by rw [hf] <;> rfl), hf]
  refine I.write (x := p) (e := p) (by rw [h]; trivial) (.inl rfl) (fun b u hb q => (Heap.get?_update_other _ _ (Ne.symm hb)).trans q) ⟨_, e⟩ ?_
  exact ⟨hz, its', n', r, e⟩
noncomputable def rSetL : V → V → V → Hp → (Hp → Prop) → Prop := fun o i v H Q => ∃ p xs k j, o = .ref p ∧ i = .int k ∧ H p = some (.lst xs) ∧ ixN xs.length k = some j ∧ Q (upd H p (.lst (xs.set j v)))
theorem set_list : PSet X rSetL := by
  intro pins s σ H o i v ov iv u Q I ro ri rv h
  obtain ⟨p, xs, k, j, rfl, rfl, hp, hj, q⟩ := h
  cases ro
  obtain ⟨t, rfl⟩ := ri
  obtain ⟨its, n, r, ho, hz⟩ := I.lst hp
  obtain ⟨h1, h2, h3, h4⟩ := ixN_seq hj
  have hl := r.length
  have hn := line63
  have I' : Inv X pins σ (upd H p (.lst (xs.set j v))) { s with heap := s.heap.update p (Obj.mapSeq (·.setIfInBounds j u)) } :=
    I.lstUpd hp ho (mapSeq_set its n j u) (r.set rv j) (by rw [List.length_set]; exact hz) s.toks
  by_cases h0 : 0 ≤ k
  · have hk : k.toNat = j := by
      rw [seqIndex_of h0 h4] at h1
      exact Option.some.inj h1
    exact PySem.W.ki_setAt ho h0 (by omega) (by rw [List.size_toArray, ← hl]; exact h4) (by rw [hk]; exact ⟨_, I', q⟩)
  · have hk : (k + (its.toArray.size : Int)).toNat = j := by
      rw [seqIndex_neg (by omega) h3] at h1
      rw [List.size_toArray, ← hl]
      exact Option.some.inj h1
    exact PySem.W.ki_setBack ho (by omega) (by rw [List.size_toArray, ← hl]; exact h3) (by omega) (by rw [hk]; exact ⟨_, I', q⟩)

theorem slice_bounds (lo hi : Option Int) (n : Nat) : (sliceBounds lo hi none n).1 = ((HT.sIx n 0 lo : Nat) : Int) ∧ (sliceBounds lo hi none n).2.1 = ((HT.sIx n n hi : Nat) : Int) ∧ (sliceBounds lo hi none n).2.2 = 1 := by
  refine ⟨?_, ?_, rfl⟩
  · cases lo with
    | none => simp [sliceBounds, HT.sIx]
    | some i =>
      simp only [sliceBounds, HT.sIx, Option.getD_none, show (1 : Int) > 0 by decide, if_true]
      by_cases h : i < 0
      · simp only [h, if_true] <;> omega
      · simp only [h, if_false] <;> omega
  · cases hi with
    | none => simp [sliceBounds, HT.sIx]
    | some i =>
      simp only [sliceBounds, HT.sIx, Option.getD_none, show (1 : Int) > 0 by decide, if_true]
      by_cases h : i < 0
      · simp only [h, if_true] <;> omega
      · simp only [h, if_false] <;> omega
theorem slicePick_cut (its : List Value) (lo hi : Option Int) : slicePick its.toArray lo hi none = ((its.drop (HT.sIx its.length 0 lo)).take (HT.sIx its.length its.length hi - HT.sIx its.length 0 lo)).toArray := by
  obtain ⟨h1, h2, h3⟩ := slice_bounds lo hi its.toArray.size
  unfold slicePick
  rw [h1, h2, h3]
  simp only [sliceRange_one, pick_run, List.size_toArray] <;> rfl
noncomputable def rSlL (K : PySem.W.Frag) : V → Option Int → Option Int → Hp → VK → Prop := fun x lo hi H Q => ∃ a xs, x = .ref a ∧ SqL K H a xs ∧ ∀ p, H p = none → Q (.ref p) (upd H p (.lst (cutV xs lo hi)))
theorem sl_list : SlR X (rSlL X.K) := by
  intro pins s σ H x v vl vu lo hi sl Q I rx hs pl pu h
  obtain ⟨a, xs, rfl, hx, q⟩ := h
  cases rx
  obtain ⟨its, r, ht, hz⟩ := I.list hx
  have hlen := r.length
  refine ⟨"list", _, slot_list_getitem.lookup, ht.isList.typeIs, ?_⟩
  refine wpAny_getItem_list_slice ht.isList hs pl pu .none (by simp) ?_ (by rw [List.size_toArray] <;> omega)
  rw [slicePick_cut, ← hlen]
  refine ⟨.ref s.heap.objs.size, _, I.laid (t' := s.toks) (o := .lst (cutV xs lo hi)) (fun b ob q => Heap.get?_push_of_some _ q) (Nat.le_refl _) ?_, rfl, q _ (I.hok.fresh (Nat.le_refl _))⟩
  exact ⟨Nat.le_trans (cutV_length xs lo hi) hz, _, 0, (r.drop (HT.sIx xs.length 0 lo)).take (HT.sIx xs.length xs.length hi - HT.sIx xs.length 0 lo), Heap.get?_push_size _ rfl⟩

theorem call_len_seq : CallR X (.builtin "len") (fun xs H Q => ∃ p ys, xs = [.ref p] ∧ (SqL X.K H p ys ∨ SqT X.K H p ys) ∧ Q (.int ys.length) H) := by
  intro pins s σ H xs us Q I r h
  obtain ⟨p, ys, rfl, hq, q⟩ := h
  obtain ⟨u, rfl, rx⟩ := vals1 r
  cases rx
  have hn := line63
  rcases hq with hq | hq
  · obtain ⟨its, r', pl, hz⟩ := I.list hq
    have hlen := r'.length
    exact Calls.call_len_list pl.isList (by simp only [List.size_toArray] <;> omega) ⟨.int ys.length, H, I.tok _, ⟨s.toks + 1, by rw [List.size_toArray, hlen]⟩, q⟩
  · obtain ⟨its, r', pl, hz⟩ := I.tuple hq
    have hlen := r'.length
    exact len_tuple pl (by simp only [List.size_toArray] <;> omega) ⟨.int ys.length, H, I.tok _, ⟨s.toks + 1, by rw [List.size_toArray, hlen]⟩, q⟩
theorem CallR.or {f : Value} {r r' : List V → Hp → VK → Prop} (h : CallR X f r) (h' : CallR X f r') : CallR X f (fun xs H Q => r xs H Q ∨ r' xs H Q) := by
  intro pins s σ H xs us Q I rs q
  rcases q with q | q
  · exact h pins s σ H xs us Q I rs q
  · exact h' pins s σ H xs us Q I rs q
theorem call_list_of : CallR X (.type "list") (fun xs H Q => ∃ p ys, xs = [.ref p] ∧ (SqL X.K H p ys ∨ SqT X.K H p ys) ∧ ∀ l, H l = none → Q (.ref l) (upd H l (.lst ys))) := by
  intro pins s σ H xs us Q I r h
  obtain ⟨p, ys, rfl, hq, q⟩ := h
  obtain ⟨u, rfl, rx⟩ := vals1 r
  cases rx
  have fin : ∀ (its : List Value), Vals ys its → ys.length ≤ sizeLine → ∀ (h' : Heap) (c' : Nat), (∀ b o', s.heap.get? b = some o' → h'.get? b = some o') →
      h'.get? s.heap.objs.size = some { cls := .type "list", dict := none, data := .seq its.toArray c', slots := #[] } → EP X pins σ Q (.ref s.heap.objs.size) { s with heap := h' } := fun its r' hz h' c' kp e =>
    ⟨.ref s.heap.objs.size, _, I.laid (t' := s.toks) kp (Nat.le_refl _) (show ObjOk X.prog X.w _ h' _ (.lst ys) from ⟨hz, its, c', r', e⟩), rfl, q _ (I.hok.fresh (Nat.le_refl _))⟩
  rcases hq with hq | hq
  · obtain ⟨its, r', pl, hz⟩ := I.list hq
    have hlen := r'.length
    obtain ⟨o, ho, hc, n, hd⟩ := pl.isList
    exact call_list_seq p (.inl rfl) ho hc hd (fun h' c' kp e => fin its r' hz h' c' kp e) (by simp only [List.size_toArray] <;> omega)
  · obtain ⟨its, r', pl, hz⟩ := I.tuple hq
    have hlen := r'.length
    obtain ⟨o, ho, hc, n, hd⟩ := pl
    exact call_list_seq p (.inr rfl) ho hc hd (fun h' c' kp e => fin its r' hz h' c' kp e) (by simp only [List.size_toArray] <;> omega)
noncomputable def tyV (K : PySem.W.Frag) (T : String) (x : V) (H : Hp) : Prop := match x with
  | .str _ => T = "str"
  | .int _ => T = "int"
  | .ref p => (T = "list" ∧ ∃ xs, SqL K H p xs) ∨ (T = "tuple" ∧ ∃ o, K.lookup p = some o ∧ o.cls = .type "tuple" ∧ o.dict = none) ∨
      (T = "dict" ∧ ((∃ kvs, H p = some (.dK kvs)) ∨ ∃ kvs, H p = some (.dT kvs))) ∨ (T = "set" ∧ ∃ S n, H p = some (.set S n))
  | _ => False
theorem tyV_is {pins : List (Addr × Obj)} {σ : St} {H : Hp} {s : Shared} {T : String} {x : V} {v : Value} (I : Inv X pins σ H s) (r : RelV x v) (ty : tyV X.K T x H) :
    s.TypeIs v T ∧ ∀ a, v = .ref a → ∃ ob, s.heap.get? a = some ob ∧ ob.dict = none := by
  cases x with
  | str z =>
    obtain ⟨t, rfl⟩ := r
    cases (show T = "str" from ty)
    exact ⟨typeIs_str s z t, fun _ e => nomatch e⟩
  | int i =>
    obtain ⟨t, rfl⟩ := r
    cases (show T = "int" from ty)
    exact ⟨typeIs_int s i t, fun _ e => nomatch e⟩
  | ref p =>
    cases r
    rcases ty with ⟨rfl, xs, hq⟩ | ⟨rfl, o, hk, hc, hd⟩ | ⟨rfl, hk⟩ | ⟨rfl, S, n, hk⟩
    · obtain ⟨its, _, pl, _⟩ := I.list hq
      refine ⟨pl.isList.typeIs, fun a e => ?_⟩
      cases e
      obtain ⟨o, n, e, c, hd, _⟩ := pl
      exact ⟨o, e, hd⟩
    · refine ⟨⟨o, I.kIn p o hk, hc⟩, fun a e => ?_⟩
      cases e
      exact ⟨o, I.kIn _ o hk, hd⟩
    · have z : ∃ o, s.heap.get? p = some o ∧ o.ExactDict := by
        rcases hk with ⟨kvs, hk⟩ | ⟨kvs, hk⟩
        · obtain ⟨_, _, _, _, o, _, _, e, ex, _⟩ := I.hok p _ hk
          exact ⟨o, e, ex⟩
        · obtain ⟨_, _, _, _, o, _, _, e, ex, _⟩ := I.hok p _ hk
          exact ⟨o, e, ex⟩
      obtain ⟨o, e, ex⟩ := z
      refine ⟨⟨o, e, ex.1⟩, fun a e2 => ?_⟩
      cases e2
      exact ⟨o, e, ex.2.1⟩
    · obtain ⟨o, _, _, _, e, ex, _⟩ := I.hok p _ hk
      refine ⟨⟨o, e, ex.1⟩, fun a e2 => ?_⟩
      cases e2
      exact ⟨o, e, ex.2.1⟩
  | _ => exact False.elim ty
noncomputable def tBM (K : PySem.W.Frag) (T : String) (r : V → List V → Hp → VK → Prop) (to : TE) (t : TA) : TE := fun σ H Q => to σ H fun x H1 => tyV K T x H1 ∧ t σ H1 fun xs H2 => r x xs H2 Q
variable {o e : Expr} {es : List Expr} {to : TE} {t : TA} {name : Str} {apos cpos : Pos} {T id : String} {r : V → List V → Hp → VK → Prop}
theorem pe_bm (pa : PlainAttrs T) (slot : Slot T name id) (hty : typeOf (.builtin id) = pure (.type "method_descriptor")) (hm : MtR X id r) (ho : PE X o to) (ha : PA X (e :: es) t)
    (hbase : attributeBase o name X.env (eval o X.env) = eval o X.env := by rfl)
    (hfew : ((backTo cpos (starEach (e :: es) X.env)).all (fun x => !x.1) && (backToKw cpos (keywordEach [] X.env)).all (fun x => x.1.isSome)
      && decide ((e :: es).length + ([] : List Keyword).length + (if ([] : List Keyword).isEmpty then 0 else 1) < 30)) = true := by rfl)
    (hline : (apos.endLine == cpos.line) = true := by rfl) (hs : starEach (e :: es) X.env = (false, eval e X.env) :: starEach es X.env := by rfl) (hplain : (backTo cpos (starEach es X.env)).any (·.1) = false := by rfl) :
    PE X (.Call (.Attribute o name apos) (e :: es) [] cpos) (tBM X.K T r to t) := by
  intro pins s σ H Q I h
  refine wpAny_Call_method_late hbase hfew hline rfl (thn (ho pins s σ H _ I h) fun v s1 ⟨x, H1, I1, r1, ty, q1⟩ => ?_)
  obtain ⟨h1, h2⟩ := tyV_is I1 r1 ty
  refine ⟨T, id, pa, slot, hty, h1, h2, ?_⟩
  have hA := ha cpos pins s1 σ H1 _ I1 q1
  rw [hs] at hA ⊢
  refine Calls.callWith_builtin (by show (false || (backTo cpos (starEach es X.env)).any (·.1)) = false; rw [hplain] <;> rfl) (Calls.evalArgs_plain ?_)
  exact thn hA fun us s2 ⟨vs, H2, I2, r2, q2⟩ => hm pins s2 σ H2 x vs v us Q I2 r1 r2 q2
/- xs.append(e), list.index on a module's tuple .. are MtR facts of 06m -/
end
end L2

namespace L2
open PySem PySem.Spec PyProof.Rows

noncomputable def MtM (X : Cx) (id : String) (r : V → List V → Hp → VK → Prop) : Prop :=
  ∀ (pins : List (Addr × Obj)) (s : Shared) (σ : St) (H : Hp) (x : V) (xs : List V) (v : Value) (us : List Value) (Q : VK), Inv X pins σ H s → RelV x v → Vals xs us → r x xs H Q →
    wpAny (model X.prog X.w) X.A (call (.builtin id) (v :: us)) (EP X pins σ Q) X.xe s

theorem Vals.one : ∀ {x : V} {us : List Value}, Vals [x] us → ∃ u, us = [u] ∧ RelV x u
  | _, _, .cons r .nil => ⟨_, rfl, r⟩
theorem Vals.two : ∀ {x y : V} {us : List Value}, Vals [x, y] us → ∃ u v, us = [u, v] ∧ RelV x u ∧ RelV y v
  | _, _, _, .cons r (.cons q .nil) => ⟨_, _, rfl, r, q⟩
theorem Vals.zero : ∀ {us : List Value}, Vals [] us → us = []
  | _, .nil => rfl
theorem Vals.dropLast {xs : List V} {us : List Value} (h : Vals xs us) : Vals xs.dropLast us.dropLast := by
  induction h with
  | nil => exact .nil
  | cons r t ih =>
    cases t with
    | nil => exact .nil
    | cons q t' => exact .cons r ih
theorem Vals.eraseIdx : ∀ {xs : List V} {us : List Value} (i : Nat), Vals xs us → Vals (xs.eraseIdx i) (us.eraseIdx i)
  | _, _, _, .nil => .nil
  | _, _, 0, .cons _ t => t
  | _, _, i + 1, .cons r t => .cons r (Vals.eraseIdx i t)
theorem Vals.reverse {xs : List V} {us : List Value} (h : Vals xs us) : Vals xs.reverse us.reverse := by
  induction h with
  | nil => exact .nil
  | cons r t ih => rw [List.reverse_cons, List.reverse_cons]; exact Vals.append ih (.cons r .nil)
section
variable {X : Cx} {pins : List (Addr × Obj)} {σ : St} {H : Hp} {s : Shared} {l b : Addr} {xs ys zs : List V}

theorem Inv.lset {its its' : List Value} {n : Nat} {f : Array Value → Array Value} {t' : Nat} (I : Inv X pins σ H s) (hH : H l = some (.lst xs))
    (e : s.heap.get? l = some { cls := .type "list", data := .seq its.toArray n }) (hf : f its.toArray = its'.toArray) (hv : Vals ys its') (hz : ys.length ≤ sizeLine) :
    Inv X pins σ (upd H l (.lst ys)) { s with heap := s.heap.update l (Obj.mapSeq f), toks := t' } := by
  have q := PySem.IsL.update e f
  rw [hf] at q
  refine I.write (x := l) (e := l) (by rw [hH]; exact trivial) (.inl rfl) (fun b' u hb hu => (Heap.get?_update_other s.heap (Obj.mapSeq f) (Ne.symm hb)).trans hu) ⟨_, q⟩ ?_
  exact ⟨hz, its', _, hv, q⟩
theorem Inv.lnew {its : List Value} {t' : Nat} (I : Inv X pins σ H s) (hv : Vals ys its) (hz : ys.length ≤ sizeLine) :
    Inv X pins σ (upd H s.heap.objs.size (.lst ys)) { s with heap := s.heap.push { cls := .type "list", data := .seq its.toArray }, toks := t' } :=
  I.laid (fun _ _ q => Heap.get?_push_of_some _ q) (Nat.le_refl _) ⟨hz, its, 0, hv, Heap.get?_push_size _ rfl⟩
theorem Inv.fresh (I : Inv X pins σ H s) : H s.heap.objs.size = none := I.hok.fresh (Nat.le_refl _)
theorem Inv.lstM (I : Inv X pins σ H s) (hH : H l = some (.lst xs)) : xs.length ≤ sizeLine ∧ ∃ (its : List Value) (n : Nat), Vals xs its ∧ xs.length = its.length ∧ s.heap.get? l = some { cls := .type "list", data := .seq its.toArray n } := by
  obtain ⟨z, its, n, r, e⟩ := I.hok l _ hH
  exact ⟨z, its, n, r, r.length, e⟩

end

section
variable {X : Cx}

noncomputable def rAppend : V → List V → Hp → VK → Prop := fun x vs H Q => ∃ l xs y, x = .ref l ∧ vs = [y] ∧ H l = some (.lst xs) ∧ xs.length < sizeLine ∧ Q .non (upd H l (.lst (xs ++ [y])))
theorem mt_append : MtM X "list.append" rAppend := by
  intro pins s σ H x vs v us Q I rx rv h
  obtain ⟨l, xs, y, rfl, rfl, hH, hz, q⟩ := h
  cases rx
  obtain ⟨u, rfl, ru⟩ := rv.one
  obtain ⟨z, its, n, r, hl, e⟩ := I.lstM hH
  refine call_meets F.slot_list_append ⟨_, e, rfl⟩ F.entry_list_append (F.args_list_append_2 _ _) (PySem.list_append l its.toArray n u (by rw [List.size_toArray]; omega)) ⟨e, ?_⟩
  refine ⟨.non, _, I.lset (its' := its ++ [u]) hH e (by simp) (r.append (.cons ru .nil)) ?_, rfl, q⟩
  rw [List.length_append, List.length_singleton]
  omega

noncomputable def rCat : R2 := fun x y H Q => ∃ l b xs zs, x = .ref l ∧ y = .ref b ∧ H l = some (.lst xs) ∧ H b = some (.lst zs) ∧ xs.length + zs.length ≤ sizeLine ∧ ∀ p, H p = none → Q (.ref p) (upd H p (.lst (xs ++ zs)))
theorem op_cat : OpR X (binaryOp .Add) rCat := by
  intro pins s σ H x y v u Q I rx ry h
  obtain ⟨l, b, xs, zs, rfl, rfl, hH, hB, hz, q⟩ := h
  cases rx
  cases ry
  obtain ⟨z, its, n, r, hl, e⟩ := I.lstM hH
  obtain ⟨z2, its2, n2, r2, hl2, e2⟩ := I.lstM hB
  refine PySem.P.add_list e e2 ?_ (by rw [List.size_toArray, List.size_toArray]; omega)
  have ea : its.toArray ++ its2.toArray = (its ++ its2).toArray := by simp
  rw [ea]
  exact ⟨.ref _, _, I.lnew (t' := s.toks) (r.append r2) (by rw [List.length_append]; omega), rfl, q _ I.fresh⟩
end

section
variable {prog : Program} {w : World} {A : Around} {E : Value → Shared → Prop} {s : Shared}
set_option maxRecDepth 100000 in
end

section
variable {X : Cx}
end
end L2

namespace Att
open PySem PySem.W PySem.Calls PyProof.Rows

theorem ints_of_wellAll {P : Params} {h : Heap} : ∀ (ns : List Int) (vs : List Value), WellAll P h vs (ns.map WData.int) → IntsAre vs ns := by
  intro ns
  induction ns with
  | nil =>
    intro vs w
    rw [List.map_nil] at w
    cases w
    exact .nil
  | cons n ns ih =>
    intro vs w
    rw [List.map_cons] at w
    cases w with
    | cons a b =>
      cases a
      exact .cons _ _ (ih _ b)

theorem script_of {l : OpenLaw} {n : Nat} (hn : l.most = some n) {P : Params} {h : Heap} {args : List WData} {vals : List Value}
    (hpre : l.row.toRowW.claim.pre args = true) (hwl : WellAll P h vals args) :
    ∃ a vs ns, vals = [Value.ref a] ∧ args = [WData.list (ns.map WData.int)] ∧ h.get? a = some { cls := .type "list", data := .seq vs.toArray } ∧ IntsAre vs ns ∧ ns.length ≤ n := by
  have hsh : WShape.hasAll [] args [.list .int] = true := (pre_splitW hpre).1
  have hc : l.pre.holds [] { args := args } = true := (pre_splitW hpre).2
  obtain ⟨d, r, rfl, h1, h2⟩ := hasAllW_cons hsh
  obtain rfl := hasAllW_nil h2
  obtain ⟨xs, rfl, h3⟩ := hasW_list h1
  obtain ⟨ns, rfl⟩ := items_int h3
  have hlen : ns.length ≤ n := by
    unfold OpenLaw.pre at hc
    have h4 : (WTm.not (.lt (.lit (.int (n : Int))) (.len (.arg 0)))).holds [] { args := [.list (ns.map .int)] } = true := by
      have h4 := (holds_andW hc).1
      rw [hn] at h4
      exact h4
    have h5 := condW_of h4 (w_not (w_lt w_lit (w_len_list (w_arg rfl))))
    rw [List.length_map] at h5
    refine Nat.le_of_not_lt fun q => ?_
    have q' : (n : Int) < ((ns.length : Nat) : Int) := by omega
    first
      | (rw [decide_eq_true q'] at h5; exact absurd h5 (by decide))
      | (simp at h5; omega)
  cases hwl with
  | cons w1 w2 =>
    cases w2
    cases w1 with
    | list ho hall => exact ⟨_, _, ns, rfl, rfl, ho, ints_of_wellAll ns _ hall, hlen⟩

theorem post_true (l : OpenLaw) (args : List WData) : l.row.toRowW.claim.post args (.bool true) args = true :=
  postW_of (r := l.row.toRowW) (X := (true == true))
    (show WShape.has [] (.bool true) .bool = true by first | rfl | decide | simp [WShape.has, WShape.arms, WShape.armsAll])
    (show (WTm.eq .res (.lit (.bool true))).value [] { args := args, res := some (.bool true), after := args } = some (.bool (true == true)) from w_eq_bool (w_res rfl) w_lit) rfl

theorem attach_call {l : OpenLaw} {n : Nat} {q : Program} {loose : List Str} {XP : (Str → Option Value) → Heap → Prop} {YP : World → Heap → Prop} {d : DefRec}
    (hn : l.most = some n) (hdf : d.params.defaults = [])
    (call : ∀ (w : World) (s₀ s₁ : Shared) (mg mb : Str → Option Value) (fa : Addr) (o : Obj) (pm cd doc : Value) (a : Addr) (vs : List Value) (ns : List Int),
      Ground q loose [] XP w s₀ mg mb s₁.heap → YP w s₁.heap →
      s₁.heap.get? fa = some o → o.data = .func (docDef d.name d.params d.body d.scope pm cd doc) → s₁.heap.CodeRec cd d.name → mg d.name = some (.ref fa) →
      s₁.heap.get? a = some { cls := .type "list", data := .seq vs.toArray } → IntsAre vs ns → ns.length ≤ n → s₁.gens = #[] →
      codeAny (model l.prog w) callerA (.call (.ref fa) ⟨[.ref a], []⟩) (fun r s' => r = .ok (.ret (.bool true)) ∧ OldK s₁.heap s'.heap ∧ s'.os = s₁.os ∧ AllBare s'.gens) s₁) :
    WalkO q loose XP YP l.row.toRowW d [] (fun f vs => PySem.call f vs) := by
  intro w s₀ s₁ mg mb G Y fa o pm cd doc dV kV ho hd hcd hD hmg hg args vals as hpre hlay hrd hwl hlo
  obtain rfl : dV = .none := Dflts.none hD hdf
  obtain rfl : kV = .none := Dflts.noKw hD
  obtain ⟨a, vs, ns, rfl, rfl, hobj, hints, hlen⟩ := script_of hn hpre hwl
  refine enter_call (codeAny_mono (call w s₀ s₁ mg mb fa o pm cd doc a vs ns G Y ho (fd_plain hd) hcd hmg hobj hints hlen hg) fun r s' hq => ?_)
  obtain ⟨rfl, h2, h3, h4⟩ := hq
  exact ⟨.inl ⟨.bool true, .bool true, [], rfl, fun _ => rfl, .bool true, post_true l _, fun _ => ⟨List.Pairwise.nil, fun _ hm => (nomatch hm)⟩⟩, h2, h3, h4⟩

section
variable {prog : Program} {w : World} {A : Around} {E : Value → Shared → Prop} {s : Shared} {K : Frag}

noncomputable def ledger (h : Heap) (L d : Addr) : List (Addr × Obj) := (List.range h.objs.size).filterMap fun a => if a = L ∨ a = d then none else (h.get? a).map fun o => (a, o)
end
end Att

namespace L2
open PySem PySem.Spec PyProof.Rows

theorem vals_ints : ∀ {vs : List Value} {ns : List Int}, IntsAre vs ns → Vals (ns.map V.int) vs
  | _, _, .nil => .nil
  | _, _, .cons n t h => .cons ⟨t, rfl⟩ (vals_ints h)

noncomputable def Only (H : Hp) : Prop := ∀ b, H b = none ∨ ∃ o xs, H b = some (.frz o (.lst xs))

theorem law_call {P : Program} {w : World} {K : PySem.W.Frag} {mg mb : Str → Option Value} {CX : CXT} {k : Nat} {fa a : Addr} {fd : FuncData} {x : Str} {sp : Sp} {s₁ : Shared} {vs : List Value} {ns : List Int}
    (KX : K.In s₁.heap) (hns : s₁.heap.Ns mainGlobals mg) (hb : s₁.heap.Ns builtinsNs mb) (hbb : ∀ x : Str, x ≠ "__name__" → mb x = bootBuiltins x) (hlim : s₁.heap.NoLimit) (hg : s₁.gens = #[])
    (ha : s₁.heap.get? a = some { cls := .type "list", data := .seq vs.toArray }) (hi : IntsAre vs ns) (hl : ns.length ≤ sizeLine) (hr : Room k callerA)
    (F : ∀ base : Heap, K.In base → base.Ns mainGlobals mg → FnOk P w K mg base CX k fa fd [x] sp) (hbind : ∀ (s : Shared) (u : Value), BindsTo s fd ⟨[u], []⟩ [(x, u)])
    (hsp : ∀ H : Hp, Only H → SqL K H a (ns.map V.int) → sp [.ref a] H (fun v _ => v = .bl true) fun _ _ _ => False)
    (hCX : ∀ H e s', CX [] H s₁ (fun _ _ _ => False) e s' → False) :
    codeAny (model P w) callerA (.call (.ref fa) ⟨[.ref a], []⟩) (fun r s' => r = .ok (.ret (.bool true)) ∧ OldK s₁.heap s'.heap ∧ s'.os = s₁.os ∧ AllBare s'.gens) s₁ := by
  have rv := vals_ints hi
  have lenV := hi.length
  -- from an abstract heap in which nothing but the script may be tracked
  have core : ∀ H : Hp, Only H → SqL K H a (ns.map V.int) → HOk P w H s₁.heap → (∀ b, H b ≠ none → b = a) → (H a ≠ none → K.lookup a = none) →
      codeAny (model P w) callerA (.call (.ref fa) ⟨[.ref a], []⟩) (fun r s' => r = .ok (.ret (.bool true)) ∧ OldK s₁.heap s'.heap ∧ s'.os = s₁.os ∧ AllBare s'.gens) s₁ := by
    intro H hO hS hok hA hK
    have base_of : ∀ {b : Addr} {o : Obj}, s₁.heap.get? b = some o → H b = none → (hidT s₁.heap H).get? b = some o := fun e n => hidT_get e n
    have noA : ∀ {b : Addr} {o : Obj} {es : Array DictEntry} {ep : Nat}, s₁.heap.get? b = some o → o.data = .dict es ep → H b = none := fun {b o es ep} e d => by
      cases q : H b with
      | none => rfl
      | some u =>
        have e' : b = a := hA b (by rw [q]; simp)
        subst e'
        rw [ha] at e; cases e
        have d' : Data.seq vs.toArray _ = Data.dict es ep := d
        cases d'
    have nsK : ∀ {b : Addr} {m : Str → Option Value}, s₁.heap.Ns b m → (hidT s₁.heap H).Ns b m := fun {b m} ⟨o, es, ep, e, d, r⟩ => ⟨o, es, ep, base_of e (noA e d), d, r⟩
    have hKb : K.In (hidT s₁.heap H) := fun b o e => base_of (KX b o e) (by
      cases q : H b with
      | none => rfl
      | some u =>
        have e' : b = a := hA b (by rw [q]; simp)
        subst e'
        rw [hK (by rw [q]; simp)] at e; cases e)
    have hM : Mod K mg (hidT s₁.heap H) := ⟨hKb, nsK hns, ⟨mb, nsK hb, hbb⟩, let ⟨mc, h1, h2⟩ := hlim; ⟨mc, nsK h1, h2⟩⟩
    have e0 : Env0 P w K mg (hidT s₁.heap H) callerA [] s₁ H := ⟨rfl, hM, fun b o e => of_hidT e, Nat.le_of_eq (hidT_size _ _), trivial, fun b hb => absurd (show b ∈ ([] : List Addr) from hb) (by simp), hok, .of_eq hg⟩
    refine codeAny_mono ((F _ hKb (nsK hns)).run callerA [] s₁ H ⟨[.ref a], []⟩ [.ref a] [.ref a] _ _ hr e0 (hbind s₁ (.ref a)) (.cons rfl .nil) (hsp H hO hS)) fun r s' h => ?_
    cases r with
    | error e => exact (hCX H e s' h).elim
    | ok fl =>
      cases fl with
      | next => exact False.elim h
      | brk => exact False.elim h
      | cont => exact False.elim h
      | ret u =>
        obtain ⟨v, H', os, bare, un, hok', r', q⟩ := h
        have q' : v = .bl true := q
        subst q'
        obtain rfl : u = Value.bool true := r'
        refine ⟨rfl, OldK.of_keep fun b o e => ?_, os, bare⟩
        cases q : H b with
        | none => exact un.keep b o e q (by intro z; exact absurd (show b ∈ ([] : List Addr) from z) (by simp)) (by simp)
        | some u =>
          rcases hO b with z | ⟨ob, xs, z⟩
          · rw [q] at z; cases z
          · have z2 := un.frzs b ob _ z
            obtain ⟨e1, _⟩ := hok b _ z
            obtain ⟨e2, _⟩ := hok' b _ z2
            rw [e] at e1; cases e1
            exact e2
  cases hk : K.lookup a with
  | some o =>
    -- the script is one of the module's own objects
    have e := KX a o hk
    rw [ha] at e
    cases e
    refine core (fun _ => none) (fun _ => .inl rfl) (.inr ⟨_, vs.toArray, _, hk, rfl, rfl, rfl, by rw [List.size_toArray, lenV]; exact hl, by simpa using rv⟩) (fun b u z => by have z' : (none : Option HO) = some u := z; cases z') (fun b z => absurd rfl z) fun z => absurd rfl z
  | none =>
    refine core (fun b => if b = a then some (.frz { cls := .type "list", data := .seq vs.toArray } (.lst (ns.map V.int))) else none) (fun b => ?_) (.inl (.inr ⟨{ cls := .type "list", data := .seq vs.toArray }, if_pos rfl⟩)) (fun b u z => ?_) (fun b z => ?_) fun _ => hk
    · by_cases hb : b = a
      · exact .inr ⟨_, _, if_pos hb⟩
      · exact .inl (if_neg hb)
    · by_cases hb : b = a
      · have z' := (if_pos hb).symm.trans z
        cases z'
        subst hb
        exact ⟨ha, by rw [List.length_map]; exact hl, vs, _, rv, ha⟩
      · have z' := (if_neg hb).symm.trans z
        cases z'
    · by_cases hb : b = a
      · exact hb
      · exact absurd (if_neg hb) z
end L2

namespace L2
open PySem PySem.Spec PyProof.Rows

theorem walk_of {l : PySem.W.OpenLaw} {n k : Nat} {q : Program} {loose : List Str} {XP : (Str → Option Value) → Heap → Prop} {YP : World → Heap → Prop} {d : DefRec} {K : Params → PySem.W.Frag} {CX : World → CXT} {sp : World → Sp} {x : Str}
    (hn : l.most = some n) (hn2 : n ≤ sizeLine) (hdf : d.params.defaults = []) (hr : Room k callerA)
    (hY : ∀ (w : World) (h : Heap), YP w h → (K w.params).In h)
    (F : ∀ (w : World) (mg : Str → Option Value) (fa : Addr) (h : Heap), (K w.params).In h → h.Ns mainGlobals mg → mg d.name = some (.ref fa) →
      ∃ fd : FuncData, (∀ (s : Shared) (u : Value), BindsTo s fd ⟨[u], []⟩ [(x, u)]) ∧
        ∀ base : Heap, (K w.params).In base → base.Ns mainGlobals mg → FnOk l.prog w (K w.params) mg base (CX w) k fa fd [x] (sp w))
    (hsp : ∀ (w : World) (H : Hp) (a : Addr) (ns : List Int), ns.length ≤ n → Only H → SqL (K w.params) H a (ns.map V.int) → sp w [.ref a] H (fun v _ => v = .bl true) fun _ _ _ => False)
    (hCX : ∀ (w : World) (H : Hp) (s : Shared) (e : Value) (s' : Shared), CX w [] H s (fun _ _ _ => False) e s' → False) :
    PySem.W.WalkO q loose XP YP l.row.toRowW d [] (fun f vs => PySem.call f vs) := by
  refine Att.attach_call hn hdf fun w s₀ s₁ mg mb fa o pm cd doc a vs ns G Y ho hd hcd hmg hobj hints hlen hg => ?_
  have KX := hY w _ Y
  obtain ⟨fd, hb, hF⟩ := F w mg fa _ KX G.T.g hmg
  exact law_call KX G.T.g G.T.b G.T.builtins G.T.nolimit hg hobj hints (Nat.le_trans hlen hn2) hr hF hb (fun H hO hS => hsp w H a ns hlen hO hS) fun H e s' => hCX w H s₁ e s'
end L2

namespace L2
open PySem PySem.Spec PyProof.Rows

noncomputable def inClass (s : Stmt) (j : Nat) : Stmt := match s with
  | .ClassDef _ _ _ body _ _ _ _ _ _ _ => body.getD j (.Pass ⟨0, 0, 0, 0⟩)
  | _ => .Pass ⟨0, 0, 0, 0⟩
noncomputable def defArgs (s : Stmt) : Arguments := match s with
  | .FunctionDef _ a _ _ _ _ _ _ _ _ => a
  | _ => { posonlyargs := [], args := [], vararg := none, kwonlyargs := [], kw_defaults := [], kwarg := none, defaults := [] }
noncomputable def defBody (s : Stmt) : List Stmt := match s with
  | .FunctionDef _ _ b _ _ _ _ _ _ _ => b
  | _ => []
noncomputable def defScope (s : Stmt) : Scope := match s with
  | .FunctionDef _ _ _ _ _ _ sc _ _ _ => sc
  | _ => { kind := .function, names := [], isGenerator := false, isCoroutine := false }

noncomputable abbrev CX0 : CXT := fun _ _ _ _ _ _ => False
noncomputable abbrev E0 : XK := fun _ _ _ => False
theorem pass0 {X : Cx} : Passes CX0 X E0 := fun _ _ _ _ _ _ _ h => h.elim

structure Fun (K : PySem.W.Frag) (x qual : Str) (st : Stmt) (f : Addr) (fd : FuncData) : Prop where
  ex : ∃ (oc : Value) (od : Option Addr) (kV doc pm : Value) (an : Option Addr) (cdv ct : Value) (osl : Array (Option Value)),
    fd = PySem.W.fnOf x qual (defArgs st) (defBody st) (defScope st) .none kV doc pm an cdv ct ∧ K.lookup f = some ⟨oc, od, .func fd, osl⟩ ∧ PySem.W.codeIn K cdv qual = true
  kp : PySem.W.keepIn K (.ref f) = true
section
variable {P : Program} {w : World} {K : PySem.W.Frag} {mg : Str → Option Value} {base : Heap}
theorem Fun.ok {x qual : Str} {st : Stmt} {f : Addr} {fd : FuncData} {N ps : List Str} {k : Nat} {sp : Sp} (F : Fun K x qual st f fd) (S : FnScope N ps (defScope st)) (len : ∀ vs H Q E, sp vs H Q E → vs.length = ps.length)
    (hbody : ∀ (cdv : Value) (A : Around) (outer : List Env) (s : Shared) (H : Hp) (vs : List V) (Q : VK) (E : XK), Room k (A.deeper (envOfC qual (defScope st) s.heap.objs.size f cdv)) → sp vs H Q E →
      ∃ t, PSs (cxOf CX0 P w K mg base N qual (defScope st) f cdv A outer s H E).nox (defBody st) t ∧ t { nx := fun _ H' => Q .non H', rt := Q } (start N vs) H) : FnOk P w K mg base CX0 (k + 1) f fd ps sp := by
  obtain ⟨oc, od, kV, doc, pm, an, cdv, ct, osl, rfl, lk, hcd⟩ := F.ex
  refine fn_of lk hcd S len fun A outer s H vs Q E hr hsp => ?_
  obtain ⟨t, h, q⟩ := hbody cdv A outer s H vs Q E hr hsp
  exact ⟨t, h.nox, q⟩
theorem Fun.binds {x qual : Str} {st : Stmt} {f : Addr} {fd : FuncData} {ps : List Str} (F : Fun K x qual st f fd)
    (h : ∀ (kV doc pm : Value) (an : Option Addr) (cdv ct : Value) (us : List Value), us.length = ps.length → bindArgs (PySem.W.fnOf x qual (defArgs st) (defBody st) (defScope st) .none kV doc pm an cdv ct) ⟨us, []⟩ = pure (ps.zip us)) : Binds K fd ps [] := by
  obtain ⟨oc, od, kV, doc, pm, an, cdv, ct, osl, rfl, lk, hcd⟩ := F.ex
  exact .all (h kV doc pm an cdv ct)
theorem fun_mk {x qual : Str} {st : Stmt} {f : Addr} {oc : Value} {od an : Option Addr} {osl : Array (Option Value)} {kV doc pm cdv ct : Value} (l : K.lookup f = some ⟨oc, od, .func (PySem.W.fnOf x qual (defArgs st) (defBody st) (defScope st) .none kV doc pm an cdv ct), osl⟩)
    (c : PySem.W.codeIn K cdv qual = true) (k : PySem.W.keepIn K (.ref f) = true) : Fun K x qual st f (PySem.W.fnOf x qual (defArgs st) (defBody st) (defScope st) .none kV doc pm an cdv ct) := ⟨⟨oc, od, kV, doc, pm, an, cdv, ct, osl, rfl, l, c⟩, k⟩
end
theorem small1000 {n : Nat} (h : n ≤ 1000) : n < sizeLine := Nat.lt_of_le_of_lt h (by decide)

section
variable {X : Cx}
theorem pv (i : Nat) {x : Str} {pos : Pos} (hN : X.N[i]? = some x := by rfl) (hv : Vis X.env.scope x := by first | exact Or.inl rfl | exact Or.inr (Or.inl rfl) | exact Or.inr (Or.inr rfl)) (hd : (x == ("__debug__" : Str)) = false := by decide)
    (hcd : (x == ("__classdict__" : Str)) = false := by decide) : PE X (.Name x pos) (tVar i) := pe_var hN hv hd hcd
end

theorem iteF {A B : Prop} (h : B) : if false = true then A else B := by
  rw [if_neg Bool.false_ne_true]
  exact h
theorem iteT {A B : Prop} (h : A) : if true = true then A else B := by
  rw [if_pos rfl]
  exact h
theorem iteNS {c A B : Prop} [Decidable c] (hc : c) (h : B) : if (!decide c) = true then A else B := by
  rw [decide_eq_true hc]
  exact iteF h

noncomputable def Same (H H' : Hp) : Prop := ∀ b o, H b = some o → H' b = some o
theorem Same.refl (H : Hp) : Same H H := fun _ _ h => h
theorem Same.trans {H H1 H2 : Hp} (a : Same H H1) (b : Same H1 H2) : Same H H2 := fun c o h => b c o (a c o h)
theorem Same.free {H H' : Hp} (e : Same H H') {l : Addr} (h : H' l = Option.none) : H l = Option.none := by
  cases q : H l with
  | none => rfl
  | some o =>
    rw [e l o q] at h
    cases h
theorem Same.seq {K : PySem.W.Frag} {H H' : Hp} {a : Addr} {xs : List V} (e : Same H H') (h : SqL K H a xs) : SqL K H' a xs := by
  rcases h with (h | ⟨o, h⟩) | h
  · exact .inl (.inl (e _ _ h))
  · exact .inl (.inr ⟨o, e _ _ h⟩)
  · exact .inr h

end L2

namespace L2
open PySem PySem.Spec PyProof.Rows
section
variable {X : Cx}
end
section
variable {κ : Type} [DecidableEq κ]
end
end L2

set_option genSizeOf false
set_option genInjectivity false
namespace L2
open PySem PySem.Spec PyProof.Rows

section
variable {prog : Program} {w : World} {A : Around} {R : Result → Shared → Prop} {s : Shared}
theorem comp_loop {elt target iter : Expr} {ifs : List Expr} {scope : Scope} {pos : Pos} {it acc : Value} {env : Env} (I : Nat → Shared → Prop)
    (turn : ∀ n s, I n s → wpAny (model prog w) A (pyNext it) (fun r s₁ => match r with
      | none => R (.ok .next) s₁
      | some v => wpAny (model prog w) A (letOwnedTupleGo target it v) (fun _ s₁' => wpAny (model prog w) A (assign target env v) (fun _ s₂ =>
          wpAny (model prog w) A (forIn ifs true fun c r => if r = true then do let ok ← isTrue c env (eval c env); pure (ForInStep.yield ok) else pure (ForInStep.yield r)) (fun ok s₃ =>
            if ok = true then wpAny (model prog w) A (eval elt env) (fun x s₄ =>
              wpAny (model prog w) A (call (.builtin "list.append") [acc, x]) (fun _ s₅ => ∃ m, m < n ∧ I m s₅) (fun _ _ => False) s₄) (fun _ _ => False) s₃
            else ∃ m, m < n ∧ I m s₃) (fun _ _ => False) s₂) (fun _ _ => False) s₁') (fun _ _ => False) s₁) (fun _ _ => False) s)
    (n : Nat) (h : I n s) :
    codeAny (model prog w) A (.compLoop (.ListComp elt [⟨target, iter, ifs, 0⟩] scope pos) 0 it acc env) R s := by
  refine codeAny_loop rfl I (fun n s hI => ?_) n h
  show wpAny _ A ((compTurn (.ListComp elt [⟨target, iter, ifs, 0⟩] scope pos) 0 it acc env).onRaise (fun x => do noteFrame x env; theTreesLotGoes x)) _ _ s
  refine wpAny_noted ?_
  rw [compTurn_list]
  refine wpAny_bind (wpAny_standAt (wpAny_bind (wpAny_mono (turn n s hI) (fun r s₁ h₁ => ?_) fun _ _ h' => False.elim h')))
  cases r with
  | none => exact wpAny_pure h₁
  | some v =>
    refine wpAny_bind (wpAny_mono h₁ (fun _ s₁' h₁' => ?_) fun _ _ h' => False.elim h')
    refine wpAny_bind (wpAny_mono h₁' (fun _ s₂ h₂ => wpAny_bind (wpAny_mono h₂ (fun ok s₃ h₃ => ?_) fun _ _ h' => False.elim h')) fun _ _ h' => False.elim h')
    cases ok with
    | false => exact wpAny_pure ⟨rfl, h₃⟩
    | true =>
      exact wpAny_bind (wpAny_bind (wpAny_mono h₃ (fun x s₄ h₄ => wpAny_bind (wpAny_mono h₄ (fun _ s₅ h₅ => wpAny_pure (wpAny_pure ⟨rfl, h₅⟩)) fun _ _ h' => False.elim h')) fun _ _ h' => False.elim h'))
end

noncomputable def compCl (cells : List (Str × Addr)) : List (Str × NameKind) → List (Str × Addr) → List (Str × Addr)
  | [], acc => acc
  | (x, k) :: r, acc => compCl cells r (if (k == NameKind.free) = true then (match cells.lookup x with | some c => (x, c) :: acc | none => acc) else acc)
theorem closureFor_cl {scope : Scope} {env : Env} (h : ∀ y ∈ scope.names, y.2 = .free → ∃ c, env.cells.lookup y.1 = some c) : closureFor scope env = pure (compCl env.cells scope.names []) := by
  have key : ∀ (names : List (Str × NameKind)) (acc : List (Str × Addr)), (∀ y ∈ names, y.2 = .free → ∃ c, env.cells.lookup y.1 = some c) →
      (forIn names acc fun (x : Str × NameKind) (r : List (Str × Addr)) => if (x.2 == NameKind.free) = true then (do let c ← cellOf env x.1; pure (ForInStep.yield ((x.1, c) :: r))) else pure (ForInStep.yield r) : Sem (List (Str × Addr))) = pure (compCl env.cells names acc) := by
    intro names
    induction names with
    | nil => intro acc _; rfl
    | cons y r ih =>
      intro acc hy
      obtain ⟨x, k⟩ := y
      rw [List.forIn_cons]
      dsimp only
      have hr := fun z hz => hy z (List.mem_cons_of_mem _ hz)
      by_cases hk : (k == NameKind.free) = true
      · obtain ⟨c, hc⟩ := hy (x, k) List.mem_cons_self (by simpa using hk)
        have hc : env.cells.lookup x = some c := hc
        have e1 : cellOf env x = pure c := by unfold cellOf; rw [hc]
        rw [if_pos hk, e1]
        simp only [pure_bind]
        rw [ih _ hr, compCl, if_pos hk, hc]
      · rw [if_neg hk]
        simp only [pure_bind]
        rw [ih _ hr, compCl, if_neg hk]
  have e := key scope.names [] h
  simp only [closureFor]
  rw [show (forIn scope.names [] fun (x : Str × NameKind) (r : List (Str × Addr)) => _ : Sem (List (Str × Addr))) = _ from e]
  rfl
theorem compCl_lookup {cells : List (Str × Addr)} {x : Str} {c : Addr} : ∀ {names : List (Str × NameKind)} {acc : List (Str × Addr)}, (compCl cells names acc).lookup x = some c → (acc.lookup x = some c) ∨ cells.lookup x = some c
  | [], acc, h => .inl h
  | (y, k) :: r, acc, h => by
    rw [compCl] at h
    rcases compCl_lookup h with h | h
    · split at h
      · cases e : cells.lookup y with
        | none => rw [e] at h; exact .inl h
        | some c' =>
          rw [e] at h
          simp only [List.lookup_cons] at h
          by_cases hxy : x = y
          · subst hxy
            simp at h
            subst h
            exact .inr e
          · have hf : (x == y) = false := by simpa using hxy
            rw [hf] at h
            exact .inl h
      · exact .inl h
    · exact .inr h
theorem compCl_keeps {cells : List (Str × Addr)} {x : Str} {c : Addr} (hc : cells.lookup x = some c) : ∀ {names : List (Str × NameKind)} {acc : List (Str × Addr)}, acc.lookup x = some c → (compCl cells names acc).lookup x = some c
  | [], acc, h => h
  | (y, k) :: r, acc, h => by
    rw [compCl]
    refine compCl_keeps hc ?_
    split
    · cases e : cells.lookup y with
      | none => exact h
      | some c' =>
        show List.lookup x ((y, c') :: acc) = some c
        simp only [List.lookup_cons]
        cases hx : x == y with
        | true =>
          have : x = y := by simpa using hx
          subst this
          rw [hc] at e; cases e; rfl
        | false => exact h
    · exact h
theorem compCl_has {cells : List (Str × Addr)} {x : Str} {c : Addr} (hc : cells.lookup x = some c) : ∀ {names : List (Str × NameKind)} {acc : List (Str × Addr)}, (x, NameKind.free) ∈ names → (compCl cells names acc).lookup x = some c
  | [], _, h => by simp at h
  | (y, k) :: r, acc, h => by
    rw [compCl]
    rcases List.mem_cons.mp h with e | h
    · cases e
      refine compCl_keeps hc ?_
      rw [if_pos (by decide), hc]
      simp [List.lookup_cons]
    · exact compCl_has hc h

theorem relabel_lookup {scope : Scope} {env : Env} {x : Str} {k : NameKind} (h : (relabel scope env).names.lookup x = some k) :
    (scope.names.lookup x = some k ∧ k ≠ .free) ∨ (scope.names.lookup x = some .free ∧ (k = .free ∨ (k = .cell ∧ env.kindOf x = some .cell))) := by
  have key : ∀ (names : List (Str × NameKind)), (names.map fun (n, k) => if (k == NameKind.free && env.scope.kind == .function && env.kindOf n == some .cell) then (n, NameKind.cell) else (n, k)).lookup x = some k →
      (names.lookup x = some k ∧ k ≠ .free) ∨ (names.lookup x = some .free ∧ (k = .free ∨ (k = .cell ∧ env.kindOf x = some .cell))) := by
    intro names
    induction names with
    | nil => intro h; simp at h
    | cons y r ih =>
      intro h
      obtain ⟨n, k'⟩ := y
      simp only [List.map_cons] at h
      by_cases hc : (k' == NameKind.free && env.scope.kind == .function && env.kindOf n == some .cell) = true
      · rw [if_pos hc] at h
        simp only [List.lookup_cons] at h ⊢
        cases hx : x == n with
        | true =>
          rw [hx] at h
          cases h
          have e : x = n := by simpa using hx
          subst e
          simp only [Bool.and_eq_true, beq_iff_eq] at hc
          exact .inr ⟨by rw [hc.1.1], .inr ⟨rfl, hc.2⟩⟩
        | false => rw [hx] at h; exact ih h
      · rw [if_neg hc] at h
        simp only [List.lookup_cons] at h ⊢
        cases hx : x == n with
        | true =>
          rw [hx] at h
          cases h
          by_cases hf : k = .free
          · subst hf; exact .inr ⟨rfl, .inl rfl⟩
          · exact .inl ⟨rfl, hf⟩
        | false => rw [hx] at h; exact ih h
  exact key scope.names h
theorem relabel_cell {scope : Scope} {env : Env} {x : Str} (hk : env.scope.kind = .function) (h : scope.names.lookup x = some .free) (he : env.kindOf x = some .cell) : (relabel scope env).names.lookup x = some .cell := by
  have key : ∀ (names : List (Str × NameKind)), names.lookup x = some .free →
      (names.map fun (n, k) => if (k == NameKind.free && env.scope.kind == .function && env.kindOf n == some .cell) then (n, NameKind.cell) else (n, k)).lookup x = some .cell := by
    intro names
    induction names with
    | nil => intro h; simp at h
    | cons y r ih =>
      intro h
      obtain ⟨n, k'⟩ := y
      simp only [List.map_cons]
      simp only [List.lookup_cons] at h
      cases hx : x == n with
      | true =>
        rw [hx] at h
        cases h
        have e : x = n := by simpa using hx
        subst e
        rw [if_pos (by simp [hk, he])]
        simp [List.lookup_cons]
      | false =>
        rw [hx] at h
        by_cases hc : (k' == NameKind.free && env.scope.kind == .function && env.kindOf n == some .cell) = true
        · rw [if_pos hc]; simp only [List.lookup_cons, hx]; exact ih h
        · rw [if_neg hc]; simp only [List.lookup_cons, hx]; exact ih h
  exact key scope.names h

noncomputable def cxC (X : Cx) (Nc : List Str) (scope : Scope) (C : Addr) (s0 : Shared) (H0 : Hp) (fp : List Addr) : Cx :=
  { X with N := Nc, s₀ := s0, H₀ := H0, env := compEnvC scope (compCl X.env.cells scope.names []) C X.env, outer := X.stack, stack := X.stack, ex := fp, fn := fun _ => false, pn := [], xe := fun _ _ => False }
noncomputable def capσ (cap : List (Nat × Str)) (σ : St) : St := cap.map fun p => (σ[p.1]?).getD none
noncomputable def blk (cap : List (Nat × Str)) (own : Nat) (σ : St) : St := capσ cap σ ++ List.replicate own none
noncomputable def PF (X : Cx) (ifs : List Expr) (t : TT) : Prop :=
  ∀ (pins : List (Addr × Obj)) (s : Shared) (σ : St) (H : Hp) (Q : Bool → Hp → Prop), Inv X pins σ H s → t σ H Q →
    wpAny (model X.prog X.w) X.A (forIn ifs true fun c r => if r = true then do let ok ← isTrue c X.env (eval c X.env); pure (ForInStep.yield ok) else pure (ForInStep.yield r)) (TP X pins σ Q) X.xe s
noncomputable def tTrue : TT := fun _ H Q => Q true H
theorem pf_nil {X : Cx} : PF X [] tTrue := fun _ _ _ H _ I h => wpAny_tests_nil ⟨H, I, h⟩
noncomputable def tComp (cap : List (Nat × Str)) (own : Nat) (wi : TI) (g : TG) (tc : TT) (te : TE) : TE := fun σ H Q => wi σ H fun J H1 => ∀ D, H1 D = none →
  ∃ W : Nat → Nat → List V → Hp → Prop, (∃ m, W 0 m [] (upd H1 D (.lst []))) ∧ ∀ i m ys H, W i m ys H → H D = some (.lst ys) ∧
    ((J.stop i H ∧ Q (.ref D) H) ∨ (J.go i H ∧ ∀ x H', J.yld i H x H' → g x (blk cap own σ) H' fun σ2 H2 =>
      (σ2.take cap.length = capσ cap σ ∧ σ2.length = cap.length + own) ∧ tc σ2 H2 fun b H3 =>
        if b = true then te σ2 H3 fun v H4 => H4 D = some (.lst ys) ∧ ys.length < sizeLine ∧ ∃ m', m' < m ∧ W (i + 1) m' (ys ++ [v]) (upd H4 D (.lst (ys ++ [v])))
        else ∃ m', m' < m ∧ W (i + 1) m' ys H3))

structure CompOk (X : Cx) (scope : Scope) (cap : List (Nat × Str)) (own : List Str) : Prop where
  kind : scope.kind = .function
  cell : ∀ y ∈ scope.names, y.2 ≠ .cell
  names : ∀ y ∈ scope.names, y.2 = .local → scope.names.lookup y.1 = some .local
  free : ∀ y ∈ scope.names, y.2 = .free → X.env.scope.names.lookup y.1 = some .cell ∧ scope.names.lookup y.1 = some .free
  hcap : ∀ p ∈ cap, X.N[p.1]? = some p.2
  hown : ∀ x ∈ own, scope.names.lookup x ≠ some .free
  hcapf : ∀ p ∈ cap, scope.names.lookup p.2 = some .free

section
variable {X : Cx} {pins : List (Addr × Obj)} {σ : St} {H : Hp} {s : Shared}
theorem comp_core {elt target iter : Expr} {ifs : List Expr} {scope : Scope} {pos : Pos} {cap : List (Nat × Str)} {own : List Str} {g : TG} {tc : TT} {te : TE} {Qe : VK} {J : It} {fp : List Addr} {it : Addr} {tn : Nat → Heap → Prop} {E : Value → Shared → Prop}
    {RR : Value → Addr → Result → Shared → Prop} (hc : X.calm = true) (O : CompOk X scope cap own)
    (hb : ∀ (C : Addr) (s0 : Shared) (H0 : Hp) (fp : List Addr), PG (cxC X (cap.map (·.2) ++ own) scope C s0 H0 fp) target g ∧ PF (cxC X (cap.map (·.2) ++ own) scope C s0 H0 fp) ifs tc ∧ PE (cxC X (cap.map (·.2) ++ own) scope C s0 H0 fp) elt te)
    (I : Inv X pins σ H s) (T : Turn X.prog X.w X.K target J fp it tn) (st : tn 0 s.heap) (f : ∀ b ∈ fp, FpOk X pins H b)
    (hW : ∀ D, H D = none → ∃ W : Nat → Nat → List V → Hp → Prop, (∃ m, W 0 m [] (upd H D (.lst []))) ∧ ∀ i m ys H, W i m ys H → H D = some (.lst ys) ∧
      ((J.stop i H ∧ Qe (.ref D) H) ∨ (J.go i H ∧ ∀ x H', J.yld i H x H' → g x (blk cap own.length σ) H' fun σ2 H2 =>
        (σ2.take cap.length = capσ cap σ ∧ σ2.length = cap.length + own.length) ∧ tc σ2 H2 fun b H3 =>
          if b = true then te σ2 H3 fun v H4 => H4 D = some (.lst ys) ∧ ys.length < sizeLine ∧ ∃ m', m' < m ∧ W (i + 1) m' (ys ++ [v]) (upd H4 D (.lst (ys ++ [v])))
          else ∃ m', m' < m ∧ W (i + 1) m' ys H3)))
    (hRR : ∀ D C s4 m H', Inv X pins σ H' s4 → s4.heap.Ns C m → FpOk X pins H' C → Qe (.ref D) H' → RR (.ref D) C (.ok .next) s4) :
    wpAny (model X.prog X.w) X.A (newList []) (fun acc s₃ => wpAny (model X.prog X.w) X.A (newFunctionEnv scope X.env.globals (compCl X.env.cells scope.names []) [] X.env.qual none .none (some X.env)) (fun cenv s₄ =>
      codeAny (model X.prog X.w) X.A (.compStart (.ListComp elt [⟨target, iter, ifs, 0⟩] scope pos) 0 (.ref it) acc { cenv with scope := relabel scope X.env }) (RR acc cenv.locals) s₄) E s₃) E s := by
  have hD : H s.heap.objs.size = none := I.hok.fresh (Nat.le_refl _)
  obtain ⟨W, ⟨m0, w0⟩, turn⟩ := hW s.heap.objs.size hD
  refine wpAny_newObj_type (wpAny_newFunctionEnv O.cell (by intro y hy; simp at hy) (fun h₁ hns₁ hsb₁ => ?_) O.kind)
  dsimp only at hns₁ hsb₁ ⊢
  have I3 : Inv X pins σ (upd H s.heap.objs.size (.lst [])) { s with heap := s.heap.push { cls := .type "list", data := .seq ([] : List Value).toArray }, toks := s.toks } := I.lnew (its := []) .nil (Nat.zero_le _)
  generalize hH2 : s.heap.push { cls := .type "list", data := .seq ([] : List Value).toArray } = h2 at hns₁ hsb₁ I3 ⊢
  have hsz : h2.objs.size = s.heap.objs.size + 1 := by rw [← hH2, Heap.size_push]
  have hC : (upd H s.heap.objs.size (.lst [])) h2.objs.size = none := I3.hok.fresh (Nat.le_refl _)
  have old : ∀ b o, h2.get? b = some o → h₁.get? b = some o := fun b o e => hsb₁.extBut b o (Nat.ne_of_lt (Heap.lt_size e)) (Heap.get?_push_of_some _ e)
  -- the block's context
  let Y : Cx := cxC X (cap.map (·.2) ++ own) scope h2.objs.size { s with heap := h2, toks := s.toks } (upd H s.heap.objs.size (.lst [])) fp
  have fD : ∀ b ∈ fp, b < s.heap.objs.size := fun b hb' => by
    obtain ⟨o, e, _⟩ := T.obj _ _ st b hb'
    exact Heap.lt_size e
  have le2 : s.heap.objs.size ≤ h2.objs.size := by rw [hsz]; exact Nat.le_succ _
  have nC : ∀ b ∈ fp, b ≠ h2.objs.size := fun b hb' => Nat.ne_of_lt (Nat.lt_of_lt_of_le (fD b hb') le2)
  have f3 : ∀ b ∈ fp, FpOk X pins (upd H s.heap.objs.size (.lst [])) b := fun b hb' => by
    obtain ⟨z0, z⟩ := f b hb'
    exact ⟨by rw [upd_ne (Nat.ne_of_lt (fD b hb'))]; exact z0, z⟩
  have nstk : ∀ b ∈ fp, b ∉ frs X.stack := fun b hb' z => by
    obtain ⟨_, z1, z2, _⟩ := f b hb'
    rcases List.mem_cons.mp (I.stkSub b z) with q | q
    · exact z1 q
    · exact z2 q
  have hkf : X.env.scope.kind = .function := I.ok.kind
  have clk : ∀ x c, (compCl X.env.cells scope.names []).lookup x = some c → X.env.cells.lookup x = some c := fun x c e => by
    rcases compCl_lookup e with q | q
    · simp at q
    · exact q
  have clh : ∀ x, scope.names.lookup x = some .free → ∃ c, X.env.cells.lookup x = some c ∧ (compCl X.env.cells scope.names []).lookup x = some c := fun x e => by
    have hm := PySem.mem_of_lookup e
    obtain ⟨c, hc'⟩ := I.ok.has x (.inl (O.free _ hm rfl).1)
    exact ⟨c, hc', compCl_has hc' hm⟩
  have okY : Y.Ok := by
    refine ⟨I.ok.mod, O.kind, I.ok.glob, I.ok.blt, Nat.le_refl _, fun x y c h1 h2' => I.ok.inj x y c (clk x c h1) (clk y c h2'), fun x hx => ?_, fun x c hf => absurd hf Bool.false_ne_true, I.ok.hd, I.ok.frames, .inl rfl, fun b hb' => ?_, I3.bs, Nat.le_trans I.ok.bsz I3.sz, fun b o e hb' => ?_, nstk, I3.stack, I3.stkFree⟩
    · have hx : (relabel scope X.env).names.lookup x = some .cell ∨ (relabel scope X.env).names.lookup x = some .free := hx
      have : scope.names.lookup x = some .free := by
        rcases hx with hx | hx
        · rcases relabel_lookup hx with ⟨q, _⟩ | ⟨q, _⟩
          · exact absurd rfl (O.cell _ (PySem.mem_of_lookup q))
          · exact q
        · rcases relabel_lookup hx with ⟨_, q⟩ | ⟨q, _⟩
          · exact absurd rfl q
          · exact q
      obtain ⟨c, _, e⟩ := clh x this
      exact ⟨c, e⟩
    · exact ⟨fun z => nC b hb' z, fun x c e => (f b hb').2.2.2.2.1 x c (clk x c e)⟩
    · rcases (f b hb').2.2.2.1 with q | q
      · exact I.ok.noex b o e q
      · exact absurd (Nat.lt_of_lt_of_le (Heap.lt_size e) (Nat.le_trans I.ok.bsz q)) (Nat.lt_irrefl _)
  have lenσ : (blk cap own.length σ).length = cap.length + own.length := by unfold blk capσ; simp
  have IY : Inv Y [] (blk cap own.length σ) (upd H s.heap.objs.size (.lst [])) { s with heap := h₁, toks := s.toks + ([] : List (Str × Value)).length } := by
    refine ⟨okY, rfl, I3.bare, Un.kept old, ⟨_, hns₁, fun i x v e1 e2 e3 => ?_⟩, fun x c e => ?_, hC, fun x c e => I3.freeC x c (clk x c e), fun p hp => absurd (show p ∈ ([] : List (Addr × Obj)) from hp) (by simp), I3.hok.kept old, by rw [lenσ]; show _ = (cap.map (·.2) ++ own).length; simp⟩
    · have hi : i < cap.length := by
        by_cases hi : i < cap.length
        · exact hi
        · unfold blk at e2
          rw [List.getElem?_append_right (by unfold capσ; simpa using hi), List.getElem?_replicate] at e2
          split at e2 <;> cases e2
      have e1 : (cap.map (·.2) ++ own)[i]? = some x := e1
      rw [List.getElem?_append_left (by simpa using hi), List.getElem?_map] at e1
      unfold blk capσ at e2
      rw [List.getElem?_append_left (by simpa using hi), List.getElem?_map] at e2
      obtain ⟨p, hp⟩ : ∃ p, cap[i]? = some p := ⟨_, List.getElem?_eq_getElem hi⟩
      rw [hp] at e1 e2
      have e1 : p.2 = x := Option.some.inj e1
      have e2 : (σ[p.1]?).getD none = some v := Option.some.inj e2
      have hm := List.mem_of_getElem? hp
      have hN := O.hcap p hm
      have e2' : σ[p.1]? = some (some v) := by
        cases q : σ[p.1]? with
        | none => rw [q] at e2; cases e2
        | some z => rw [q] at e2; exact congrArg some e2
      have hfr := O.hcapf p hm
      have hcl := O.free _ (PySem.mem_of_lookup hfr) rfl
      subst e1
      obtain ⟨m3, hn3, hl3⟩ := I3.loc
      obtain ⟨u, r, l⟩ := hl3 p.1 p.2 v hN e2' (.inr (.inl hcl.1))
      refine ⟨u, r, .inr ⟨.inl (relabel_cell hkf hfr hcl.1), ?_⟩⟩
      rcases l with ⟨l, _⟩ | ⟨_, c, hc', z⟩
      · have l : X.env.scope.names.lookup p.2 = some .local := l
        rw [hcl.1] at l; cases l
      · obtain ⟨c', h1, h2'⟩ := clh p.2 hfr
        have h1 : X.env.cells.lookup p.2 = some c' := h1
        rw [hc'] at h1; cases h1
        obtain ⟨oc, ho, hd⟩ := z
        exact ⟨c, h2', oc, old _ _ ho, hd⟩
    · obtain ⟨v, oc, ho, hd⟩ := I3.cell x c (clk x c e)
      exact ⟨v, oc, old _ _ ho, hd⟩
  have st1 : tn 0 h₁ := T.keep _ _ _ st fun b _ o e => old b o (by rw [← hH2]; exact Heap.get?_push_of_some _ e)
  have stat : ∀ {H' : Hp}, (∀ b ∈ fp, H' b = none) → ∀ b ∈ fp, FpOk Y [] H' b := fun hn b hb' =>
    ⟨hn b hb', fun z => nC b hb' z, nstk b hb', .inl hb', fun x c e => (f b hb').2.2.2.2.1 x c (clk x c e), fun p hp => absurd (show p ∈ ([] : List (Addr × Obj)) from hp) (by simp)⟩
  have loop : codeAny (model X.prog X.w) X.A (.compLoop (.ListComp elt [⟨target, iter, ifs, 0⟩] scope pos) 0 (.ref it) (.ref s.heap.objs.size) Y.env)
      (RR (.ref s.heap.objs.size) h2.objs.size) { s with heap := h₁, toks := s.toks + ([] : List (Str × Value)).length } := by
    refine comp_loop (fun n s' => ∃ i ys H', Inv Y [] (blk cap own.length σ) H' s' ∧ tn i s'.heap ∧ (∀ b ∈ fp, H' b = none) ∧ W i n ys H') ?_ m0 ⟨0, [], _, IY, st1, fun b hb' => (f3 b hb').1, w0⟩
    rintro n s' ⟨i, ys, H', I', st', fr', w'⟩
    obtain ⟨hD', alt⟩ := turn i n ys H' w'
    rcases alt with ⟨stop, q⟩ | ⟨go, step⟩
    · refine wpAny_mono (T.done Y rfl rfl rfl hc i [] s' _ H' (fun _ _ => False) I' (stat fr') st' stop) (fun r s4 ⟨hr, I4⟩ => ?_) fun _ _ z => z
      subst hr
      obtain ⟨m, hn, _⟩ := I4.loc
      refine hRR s.heap.objs.size h2.objs.size s4 m H' ?_ hn ?_ q
      · refine I3.call' (s' := s4) (ch := fp) I4.os I4.base I4.hok I4.bare fun b hb' => ?_
        obtain ⟨_, z1, _, z3, z4, z5⟩ := f b hb'
        exact ⟨z3, z1, z4, z5⟩
      · exact I3.fpOk (Nat.le_refl _) I4.free
    · refine wpAny_mono (T.item Y rfl rfl rfl hc i [] s' _ H' (fun _ _ => False) I' (stat fr') st' go) (fun r s4 ⟨u, hr, h4⟩ => ?_) fun _ _ z => z
      subst hr
      refine wpAny_mono h4 (fun _ s5 ⟨x, H5, I5, r5, y5, st5, fr5⟩ => ?_) fun _ _ z => z
      have I5' := I5.pinned (stat fr5) (T.obj _ _ st5)
      obtain ⟨pg, pf, pe⟩ := hb h2.objs.size { s with heap := h2, toks := s.toks } (upd H s.heap.objs.size (.lst [])) fp
      refine wpAny_mono (pg _ s5 _ H5 x u _ I5' r5 (step x H5 y5)) (fun _ s6 ⟨σ6, H6, I6, ⟨tk6, ln6⟩, q6⟩ => ?_) fun _ _ z => z
      have back : ∀ {s9 : Shared} {H9 : Hp}, Inv Y ([] ++ pinsAt fp s5.heap) σ6 H9 s9 → ∀ {m' : Nat} {ys' : List V}, m' < n → W (i + 1) m' ys' H9 → ∃ m, m < n ∧ ∃ i ys H', Inv Y [] (blk cap own.length σ) H' s9 ∧ tn i s9.heap ∧ (∀ b ∈ fp, H' b = none) ∧ W i m ys H' := by
        intro s9 H9 I9 m' ys' hm w9
        refine ⟨m', hm, i + 1, ys', H9, I9.unpinned.weak ?_ (fun j v e => ?_), T.keep _ _ _ st5 fun b hb' o e => (I9.pin (b, o) (List.mem_append_right _ (List.mem_append_right _ (mem_pinsAt hb' e)))).1, fun b hb' => ?_, w9⟩
        · rw [lenσ, ln6]
        · have hj : j < cap.length := by
            by_cases hj : j < cap.length
            · exact hj
            · unfold blk at e
              rw [List.getElem?_append_right (by unfold capσ; simpa using hj), List.getElem?_replicate] at e
              split at e <;> cases e
          unfold blk at e
          rw [List.getElem?_append_left (by unfold capσ; simpa using hj), ← tk6, List.getElem?_take_of_lt hj] at e
          exact e
        · obtain ⟨o, e, d⟩ := T.obj _ _ st5 b hb'
          exact (I9.pin (b, o) (List.mem_append_right _ (List.mem_append_right _ (mem_pinsAt hb' e)))).2.1
      refine wpAny_mono (pf _ s6 σ6 H6 _ I6 q6) (fun ok s7 ⟨H7, I7, q7⟩ => ?_) fun _ _ z => z
      cases ok with
      | false =>
        rw [if_neg Bool.false_ne_true] at q7 ⊢
        obtain ⟨m', hm, w7⟩ := q7
        exact back I7 hm w7
      | true =>
        rw [if_pos rfl] at q7 ⊢
        refine wpAny_mono (pe _ s7 σ6 H7 _ I7 q7) (fun y s8 ⟨v, H8, I8, r8, hD8, hl8, m', hm, w8⟩ => ?_) fun _ _ z => z
        refine wpAny_mono (mt_append (X := Y) _ s8 σ6 H8 (.ref s.heap.objs.size) [v] (.ref s.heap.objs.size) [y] (fun _ H9 => H9 = upd H8 s.heap.objs.size (.lst (ys ++ [v]))) I8 rfl (.cons r8 .nil) ⟨_, ys, v, rfl, rfl, hD8, hl8, rfl⟩) (fun z s9 ⟨v9, H9, I9, r9, e9⟩ => ?_) fun _ _ z => z
        subst e9
        exact back I9 hm w8
  exact codeAny_compStart_list loop (T.self X.A 0 _ _ _ st1 loop)

theorem pe_comp {elt target iter : Expr} {ifs : List Expr} {scope : Scope} {pos : Pos} {cap : List (Nat × Str)} {own : List Str} {wi : TI} {g : TG} {tc : TT} {te : TE} (hc : X.calm = true) (O : CompOk X scope cap own) (hi : PI X target iter wi)
    (hb : ∀ (C : Addr) (s0 : Shared) (H0 : Hp) (fp : List Addr), PG (cxC X (cap.map (·.2) ++ own) scope C s0 H0 fp) target g ∧ PF (cxC X (cap.map (·.2) ++ own) scope C s0 H0 fp) ifs tc ∧ PE (cxC X (cap.map (·.2) ++ own) scope C s0 H0 fp) elt te)
    (hs : ∀ x, foldedSetIterable iter X.env x = pure x := by intro _; rfl) :
    PE X (.ListComp elt [⟨target, iter, ifs, 0⟩] scope pos) (tComp cap own.length wi g tc te) := by
  intro pins s σ H Q I h
  rw [eval_ListComp]
  have hclos : closureFor scope X.env = pure (compCl X.env.cells scope.names []) := closureFor_cl fun y hy hf => I.ok.has y.1 (.inl (O.free y hy hf).1)
  refine wpAny_comprehension_free (use := none) rfl hs hclos O.kind O.names (thn (hi pins s σ H _ I h) fun v s1 h1 => thn h1 fun itv s2 h2 => ?_)
  obtain ⟨it, fp, tn, J, H2, rfl, I2, T, st2, f2, hR⟩ := h2
  refine comp_core (RR := fun acc C => compPost (model X.prog X.w) X.A X.xe none (EP X pins σ Q) acc C) hc O hb I2 T st2 f2 hR ?_
  intro D C s4 m H' I4 hn fC q
  obtain ⟨z0, z1, z2, z3, z4, z5⟩ := fC
  refine ⟨m, hn, fun h' hs' => ⟨.ref D, H', I4.turned (t' := s4.toks) (fun b o hb' e => hs'.extBut b o hb' e) z0 z1 z3 z4 z5, rfl, q⟩⟩
theorem ps_setComp {elt target iter : Expr} {ifs : List Expr} {scope : Scope} {pos spos py : Pos} {cap : List (Nat × Str)} {own : List Str} {wi : TI} {g : TG} {tc : TT} {te : TE} {i : Nat} {y : Str} (hc : X.calm = true) (O : CompOk X scope cap own) (hN : X.N.Nodup) (hiN : X.N[i]? = some y) (hy : Loc X.env.scope y)
    (hi : PI X target iter wi)
    (hb : ∀ (C : Addr) (s0 : Shared) (H0 : Hp) (fp : List Addr), PG (cxC X (cap.map (·.2) ++ own) scope C s0 H0 fp) target g ∧ PF (cxC X (cap.map (·.2) ++ own) scope C s0 H0 fp) ifs tc ∧ PE (cxC X (cap.map (·.2) ++ own) scope C s0 H0 fp) elt te)
    (hsw : swapsWith (.ListComp elt [⟨target, iter, ifs, 0⟩] scope pos) (some (.Name y py)) spos.line X.env = pure true := by rfl)
    (hs : ∀ x, foldedSetIterable iter X.env x = pure x := by intro _; rfl) (hf : X.fn y = true ∨ X.env.scope.names.lookup y = some .local := by first | exact .inl rfl | exact .inr rfl | assumption) :
    PS X (.Assign [.Name y py] (.ListComp elt [⟨target, iter, ifs, 0⟩] scope pos) spos) (tAsg (tComp cap own.length wi g tc te) (gName i)) := by
  intro pins s σ H D I h
  rw [exec_Assign_Name_used _ _ _ _ hsw]
  refine wpAny_bind (wpAny_standAt (wpAny_bind ?_))
  show wpAny _ X.A (do let _ ← comprehension (.ListComp elt [⟨target, iter, ifs, 0⟩] scope pos) scope X.env _ (newList []) false (eval iter X.env) (some (assign (.Name y py) X.env))) _ _ s
  have hclos : closureFor scope X.env = pure (compCl X.env.cells scope.names []) := closureFor_cl fun y hy hf => I.ok.has y.1 (.inl (O.free y hy hf).1)
  refine wpAny_bind (wpAny_mono (wpAny_comprehension_free (use := some (assign (.Name y py) X.env)) (Q := fun _ s' => SP X pins D .next s') rfl hs hclos O.kind O.names
    (thn (hi pins s σ H _ I h) fun v s1 h1 => thn h1 fun itv s2 h2 => ?_)) (fun _ s' hq => wpAny_pure (wpAny_pure hq)) fun _ _ e => e)
  obtain ⟨it, fp, tn, J, H2, rfl, I2, T, st2, f2, hR⟩ := h2
  refine comp_core (Qe := fun x H1 => gName i x σ H1 D.nx) (RR := fun acc C => compPost (model X.prog X.w) X.A X.xe (some (assign (.Name y py) X.env)) (fun _ s' => SP X pins D .next s') acc C) hc O hb I2 T st2 f2 hR ?_
  intro Da C s4 m H' I4 hn fC q
  obtain ⟨z0, z1, z2, z3, z4, z5⟩ := fC
  show wpAny _ X.A (assign (.Name y py) X.env (.ref Da)) _ _ _
  refine wpAny_assign_Name (store_ok2 I4 hN hiN hy (v := .ref Da) rfl (fun s5 I5 ⟨a, sb, ha⟩ => ?_) hf)
  have hCa : C ≠ a := by
    rcases ha with e | e
    · rw [e]; exact z1
    · exact fun z => z4 y a e z.symm
  refine ⟨m, hn.sameBut sb hCa, fun h' hs' => ⟨_, H', I5.turned (t' := s5.toks) (fun b o hb' e => hs'.extBut b o hb' e) z0 z1 z3 z4 z5, q⟩⟩
end
end L2

set_option genSizeOf false
set_option genInjectivity false
namespace FxS
open PySem
noncomputable abbrev Rs (xs : Array Nat) : Prop := xs.toList.Pairwise (· < ·)
theorem rs_lt {xs : Array Nat} (h : Rs xs) {i j : Nat} (hij : i < j) (hj : j < xs.size) : xs[i]'(by omega) < xs[j] := by
  have := List.pairwise_iff_getElem.mp h i j (by simpa using (by omega : i < xs.size)) (by simpa using hj) hij
  simpa using this
theorem below_go {xs : Array Nat} (h : Rs xs) (j : Nat) : ∀ (fuel lo hi : Nat), hi - lo ≤ fuel → lo ≤ hi → hi ≤ xs.size → (∀ i (hi' : i < xs.size), i < lo → xs[i] < j) → (∀ i (hi' : i < xs.size), hi ≤ i → j ≤ xs[i]) →
    SetTable.below.go xs j fuel lo hi ≤ xs.size ∧ (∀ i (hi' : i < xs.size), i < SetTable.below.go xs j fuel lo hi → xs[i] < j) ∧ (∀ i (hi' : i < xs.size), SetTable.below.go xs j fuel lo hi ≤ i → j ≤ xs[i])
  | 0, lo, hi, hf, hl, hs, h1, h2 => by
    have e : lo = hi := by omega
    subst e
    exact ⟨hs, h1, h2⟩
  | fuel + 1, lo, hi, hf, hl, hs, h1, h2 => by
    unfold SetTable.below.go
    by_cases c : lo < hi
    · rw [if_pos c]
      have hm : (lo + hi) / 2 < xs.size := by omega
      have e : xs.getD ((lo + hi) / 2) j = xs[(lo + hi) / 2] := by simp [Array.getD, hm]
      dsimp only
      rw [e]
      by_cases d : xs[(lo + hi) / 2] < j
      · rw [if_pos d]
        refine below_go h j fuel _ _ (by omega) (by omega) hs (fun i hi' hlt => ?_) h2
        by_cases q : i = (lo + hi) / 2
        · subst q; exact d
        · have := rs_lt h (i := i) (j := (lo + hi) / 2) (by omega) hm
          omega
      · rw [if_neg d]
        refine below_go h j fuel _ _ (by omega) (by omega) (by omega) h1 (fun i hi' hle => ?_)
        by_cases q : i = (lo + hi) / 2
        · subst q; omega
        · have := rs_lt h (i := (lo + hi) / 2) (j := i) (by omega) hi'
          omega
    · rw [if_neg c]
      have e : lo = hi := by omega
      subst e
      exact ⟨hs, h1, h2⟩
theorem below_spec {xs : Array Nat} (h : Rs xs) (j : Nat) :
    SetTable.below xs j ≤ xs.size ∧ (∀ i (hi' : i < xs.size), i < SetTable.below xs j → xs[i] < j) ∧ (∀ i (hi' : i < xs.size), SetTable.below xs j ≤ i → j ≤ xs[i]) := by
  unfold SetTable.below
  exact below_go h j xs.size 0 xs.size (by omega) (Nat.zero_le _) (Nat.le_refl _) (fun i _ c => by omega) (fun i hi' c => by omega)
theorem insert_rs {xs : Array Nat} (h : Rs xs) {j : Nat} (hj : xs[SetTable.below xs j]? ≠ some j) : Rs (SetTable.insertAt xs (SetTable.below xs j) j) := by
  obtain ⟨h1, h2, h3⟩ := below_spec h j
  unfold Rs SetTable.insertAt
  simp only [Array.toList_append, Array.toList_push, Array.toList_extract]
  have e1 : List.extract xs.toList 0 (SetTable.below xs j) = xs.toList.take (SetTable.below xs j) := by simp [List.extract]
  have e2 : List.extract xs.toList (SetTable.below xs j) xs.size = xs.toList.drop (SetTable.below xs j) := by
    simp [List.extract]
    rw [List.take_of_length_le (by simp)]
  rw [e1, e2]
  have lo : ∀ x ∈ xs.toList.take (SetTable.below xs j), x < j := fun x hx => by
    obtain ⟨i, hi, e⟩ := List.getElem_of_mem hx
    rw [List.length_take, Array.length_toList] at hi
    have := h2 i (by omega) (by omega)
    rw [List.getElem_take] at e
    simp at e
    omega
  have hi : ∀ x ∈ xs.toList.drop (SetTable.below xs j), j < x := fun x hx => by
    obtain ⟨i, hi, e⟩ := List.getElem_of_mem hx
    rw [List.length_drop, Array.length_toList] at hi
    have h4 := h3 (SetTable.below xs j + i) (by omega) (by omega)
    rw [List.getElem_drop] at e
    simp at e
    by_cases q : x = j
    · exfalso
      have h0 : SetTable.below xs j < xs.size := by omega
      have h5 := h3 (SetTable.below xs j) h0 (Nat.le_refl _)
      have h6 : xs[SetTable.below xs j] ≤ xs[SetTable.below xs j + i] := by
        by_cases z : i = 0
        · subst z; exact Nat.le_refl _
        · exact Nat.le_of_lt (rs_lt h (by omega) (by omega))
      apply hj
      rw [Array.getElem?_eq_getElem h0]
      congr 1
      omega
    · omega
  have p1 : (xs.toList.take (SetTable.below xs j)).Pairwise (· < ·) := h.sublist (List.take_sublist _ _)
  have p2 : (xs.toList.drop (SetTable.below xs j)).Pairwise (· < ·) := h.sublist (List.drop_sublist _ _)
  refine List.pairwise_append.mpr ⟨List.pairwise_append.mpr ⟨p1, by simp, fun a ha b hb => by rw [List.mem_singleton.mp hb]; exact lo a ha⟩, p2, fun a ha b hb => ?_⟩
  rcases List.mem_append.mp ha with ha | ha
  · exact Nat.lt_trans (lo a ha) (hi b hb)
  · rw [List.mem_singleton.mp ha]; exact hi b hb

structure TabOk (led : Bool) (t : SetTable) : Prop where
  led : t.led = led
  dm : t.dummies = #[]
  rs : t.plain = true → Rs t.place
theorem TabOk.fresh (led : Bool) (f m : Nat) : TabOk led (SetTable.fresh f m led) := ⟨rfl, rfl, fun _ => List.Pairwise.nil⟩
theorem TabOk.standIn {led : Bool} {t : SetTable} (h : TabOk led t) (n : Nat) : TabOk led (t.standIn n) := ⟨h.led, rfl, fun z => absurd z (by simp [SetTable.standIn])⟩
theorem TabOk.orStandIn {led : Bool} {t : SetTable} (h : TabOk led t) (n : Nat) : TabOk led (t.orStandIn n) := by
  unfold SetTable.orStandIn
  split
  · exact h
  · exact h.standIn n
theorem TabOk.unplain {led : Bool} {t : SetTable} (h : TabOk led t) : TabOk led { t with plain := false } := ⟨h.led, h.dm, fun z => absurd z (by simp)⟩
theorem probe_empty {t : SetTable} {hashAt : Nat → Int} {h : Int} : ∀ (fuel : Nat) (p : SetTable.Probe) {j : Nat} {d : Option Nat}, SetTable.probe.go t hashAt h fuel p = some (.empty j d) → t.slot j = .empty
  | 0, p, j, d, e => by simp [SetTable.probe.go] at e
  | fuel + 1, p, j, d, e => by
    unfold SetTable.probe.go at e
    split at e
    · rename_i hs
      cases e
      exact hs
    · exact probe_empty fuel _ e
    · split at e
      · cases e
      · exact probe_empty fuel _ e
theorem probe_nodummy {t : SetTable} (hd : t.dummies = #[]) {hashAt : Nat → Int} {h : Int} : ∀ (fuel : Nat) (p : SetTable.Probe) {j : Nat} {d : Option Nat}, p.dummy = none → SetTable.probe.go t hashAt h fuel p = some (.empty j d) → d = none
  | 0, p, j, d, hp, e => by simp [SetTable.probe.go] at e
  | fuel + 1, p, j, d, hp, e => by
    have adv : (t.advance p).dummy = none := by
      unfold SetTable.advance
      split
      · exact hp
      · exact hp
    unfold SetTable.probe.go at e
    split at e
    · cases e; exact hp
    · rename_i hs
      unfold SetTable.slot at hs
      dsimp only at hs
      split at hs
      · cases hs
      · split at hs
        · rename_i hh
          rw [hd] at hh
          simp [SetTable.has, SetTable.below, SetTable.below.go] at hh
        · cases hs
    · split at e
      · cases e
      · exact probe_nodummy hd fuel _ adv e
theorem slot_empty {t : SetTable} {j : Nat} (h : t.slot j = .empty) : t.place[SetTable.below t.place j]? ≠ some j := by
  intro e
  unfold SetTable.slot at h
  dsimp only at h
  rw [if_pos (by rw [e]; simp)] at h
  cases h
theorem TabOk.layNew {led : Bool} {t : SetTable} (k : TabOk led t) (es : Array (Int × Value)) (h : Int) (x : Value) : TabOk led (layNew t es h x).2.1 := by
  unfold PySem.layNew
  cases e : t.freeSlot h with
  | none => exact k.standIn _
  | some p =>
    obtain ⟨slot, wd⟩ := p
    dsimp only
    refine TabOk.orStandIn ?_ _
    unfold SetTable.freeSlot at e
    split at e
    · rename_i j d hpr
      cases e
      have hd : d = none := probe_nodummy k.dm _ _ rfl hpr
      subst hd
      have hs := probe_empty _ _ hpr
      refine ⟨k.led, ?_, fun hp => ?_⟩
      · show (if SetTable.has t.dummies j = true then _ else t.dummies) = #[]
        rw [if_neg (by rw [k.dm]; simp [SetTable.has, SetTable.below, SetTable.below.go])]
        exact k.dm
      · exact insert_rs (k.rs hp) (slot_empty hs)
    · cases e
theorem TabOk.relayAll {led : Bool} {t : SetTable} (k : TabOk led t) (es : Array (Int × Value)) (n : Nat) : TabOk led (relayAll t es n).2.1 := by
  unfold PySem.relayAll
  cases e : t.relaid (es.map (·.1)) n with
  | none => exact k.standIn _
  | some p =>
    obtain ⟨t', order⟩ := p
    dsimp only
    split
    · unfold SetTable.relaid SetTable.laid at e
      cases ho : SetTable.layClean (SetTable.sizeAbove n - 1) (es.map (·.1)) with
      | none => rw [ho] at e; cases e
      | some owner =>
        rw [ho] at e
        cases e
        refine ⟨k.led, rfl, fun _ => ?_⟩
        show (((List.range (SetTable.sizeAbove n - 1 + 1)).filterMap fun j => (owner.getD j none).map (j, ·)).map (·.1)).toArray.toList.Pairwise (· < ·)
        have key : ∀ l : List Nat, l.Pairwise (· < ·) → ((l.filterMap fun j => (owner.getD j none).map (j, ·)).map (·.1)).Pairwise (· < ·) ∧ ∀ x ∈ (l.filterMap fun j => (owner.getD j none).map (j, ·)).map (·.1), x ∈ l := by
          intro l
          induction l with
          | nil => intro _; exact ⟨List.Pairwise.nil, fun x hx => by simp at hx⟩
          | cons a r ih =>
            intro hl
            obtain ⟨h1, h2⟩ := List.pairwise_cons.mp hl
            obtain ⟨i1, i2⟩ := ih h2
            cases q : owner.getD a none with
            | none =>
              rw [List.filterMap_cons_none (by rw [q]; rfl)]
              exact ⟨i1, fun x hx => List.mem_cons_of_mem _ (i2 x hx)⟩
            | some b =>
              rw [List.filterMap_cons_some (b := (a, b)) (by rw [q]; rfl), List.map_cons]
              exact ⟨List.pairwise_cons.mpr ⟨fun x hx => h1 x (i2 x hx), i1⟩, fun x hx => by
                rcases List.mem_cons.mp hx with e | hx
                · rw [e]; exact List.mem_cons_self
                · exact List.mem_cons_of_mem _ (i2 x hx)⟩
        simpa using (key (List.range (SetTable.sizeAbove n - 1 + 1)) List.pairwise_lt_range).1
    · exact k.standIn _
end FxS

set_option genSizeOf false
set_option genInjectivity false
namespace FxS
open PySem
noncomputable def valI : Value → Int
  | .int i _ => i
  | _ => 0
section
variable {prog : Program} {w : World}
noncomputable def SetI (prog : Program) (w : World) (h : Heap) (a : Addr) (ms : List Int) (led : Bool) : Prop :=
  ∃ o es ep t, h.get? a = some o ∧ o.ExactSet ∧ o.data = .set es ep t ∧ ElemsOf (intKind prog w) es.toList ∧ ms = es.toList.map (fun e => valI e.2) ∧ es.size < scanBound ∧ t.fits es.size = true ∧ TabOk led t
variable {A : Around} {E : Value → Shared → Prop} {s : Shared}
theorem elem_int {es : List (Int × Value)} (h : ElemsOf (intKind prog w) es) {e : Int × Value} (he : e ∈ es) : ∃ t, e.2 = .int (valI e.2) t := by
  obtain ⟨⟨k, hk, _⟩, _⟩ := h e he
  obtain ⟨t, q⟩ := Value.isInt_shape (k := k) (v := e.2) hk
  exact ⟨t, by rw [q]; rfl⟩
theorem SetI.setOf {h : Heap} {a : Addr} {ms : List Int} {led : Bool} (x : SetI prog w h a ms led) : h.SetOf (intKind prog w) a (fun k => decide (k ∈ ms)) ms.length := by
  obtain ⟨o, es, ep, t, h1, h2, h3, h4, rfl, h6, h7, _⟩ := x
  refine ⟨o, es, ep, t, h1, h2, h3, h4, fun k => ?_, h6, h7, by simp⟩
  rw [decide_eq_true_eq, List.mem_map]
  constructor
  · rintro ⟨e, he, q⟩
    obtain ⟨tk, z⟩ := elem_int h4 he
    exact ⟨e, he, by rw [z, q]; exact intKind_is _ _ _ _⟩
  · rintro ⟨e, he, q⟩
    refine ⟨e, he, ?_⟩
    obtain ⟨tk, z⟩ := Value.isInt_shape (k := k) (v := e.2) q
    rw [z]; rfl
theorem SetI.sameAt {h h' : Heap} {a : Addr} {ms : List Int} {led : Bool} (x : SetI prog w h a ms led) (e : ∀ o, h.get? a = some o → h'.get? a = some o) : SetI prog w h' a ms led := by
  obtain ⟨o, es, ep, t, h1, r⟩ := x
  exact ⟨o, es, ep, t, e o h1, r⟩
theorem set_put {h : Heap} {a : Addr} {o : Obj} {es : Array (Int × Value)} {ep : Nat} {t : SetTable} (ho : h.get? a = some o) (hd : o.data = .set es ep t) (es' : Array (Int × Value)) (t' : SetTable) :
    (h.update a (Obj.putSet es' t')).get? a = some { o with data := .set es' (ep + 1) t' } := by
  have := Heap.get?_update_self (Obj.putSet es' t') ho (by rw [putSet_of es' t' hd]; rfl)
  rw [putSet_of es' t' hd] at this
  exact this
theorem addTailI {g : Bool → Sem Unit} (hg : ∀ (b : Bool) (s₁ : Shared) (Q' : Unit → Shared → Prop), Q' () s₁ → wpAny (model prog w) A (g b) Q' E s₁)
    {a : Addr} {o : Obj} {es : Array (Int × Value)} {ep : Nat} {t : SetTable} {led : Bool} (ho : s.heap.get? a = some o) (hex : o.ExactSet) (hd : o.data = .set es ep t)
    {es1 : Array (Int × Value)} {t2 : SetTable} (hel1 : ElemsOf (intKind prog w) es1.toList) (hb1 : es1.size < scanBound) (hf2 : t2.fits es1.size = true) (k2 : TabOk led t2) {wasDummy : Bool} {R : Option Bool → Shared → Prop}
    (h : ∀ h' ms, Heap.SameBut a s.heap h' → ms.Perm (es1.toList.map fun e => valI e.2) → SetI prog w h' a ms led → R (some true) { s with heap := h' }) :
    wpAny (model prog w) A (do
        storeSet a es1 t2
        if (!wasDummy && t2.tooFull) = true then do
            g (relayAll t2 es1 (SetTable.grown es1.size)).2.2
            storeSet a (relayAll t2 es1 (SetTable.grown es1.size)).1 (relayAll t2 es1 (SetTable.grown es1.size)).2.1
            pure (some true)
          else pure (some true)) R E s := by
  have hz1 := fits_of_scanBound hb1
  have p1 := set_put ho hd es1 t2
  have sb1 := Heap.SameBut.update s.heap a (Obj.putSet es1 t2)
  refine wpAny_bind (wpAny_storeSet_of ho hd ?_ hz1)
  by_cases c : (!wasDummy && t2.tooFull) = true
  · rw [if_pos c]
    have q1 := relayAll_perm t2 es1 (SetTable.grown es1.size)
    have q2 := relayAll_fits t2 es1 (SetTable.grown es1.size)
    have q3 := k2.relayAll es1 (SetTable.grown es1.size)
    generalize relayAll t2 es1 (SetTable.grown es1.size) = Z at q1 q2 q3 ⊢
    obtain ⟨es2, t3, gv⟩ := Z
    dsimp only at q1 q2 q3 ⊢
    have hsz : es2.size = es1.size := by rw [← Array.length_toList, q1.length_eq, Array.length_toList]
    have hb2 : es2.size < scanBound := by rw [hsz]; exact hb1
    refine wpAny_bind (hg _ _ _ (wpAny_bind (wpAny_storeSet_of p1 rfl (wpAny_pure ?_) (fits_of_scanBound hb2))))
    refine h _ (es2.toList.map fun e => valI e.2) (sb1.trans (Heap.SameBut.update _ a _)) (q1.map _) ?_
    exact ⟨_, es2, _, t3, set_put p1 rfl es2 t3, hex, rfl, hel1.perm q1, rfl, hb2, q2, q3⟩
  · rw [if_neg c]
    exact wpAny_pure (h _ _ sb1 (List.Perm.refl _) ⟨_, es1, _, t2, p1, hex, rfl, hel1, rfl, hb1, hf2, k2⟩)
theorem addI {a : Addr} {ms : List Int} {led : Bool} {k : Int} {tk : Tok} {Q : Bool → Shared → Prop} (hS : SetI prog w s.heap a ms led) (hroom : ms.length + 1 < scanBound)
    (h : ∀ h' ms', Heap.SameBut a s.heap h' → SetI prog w h' a ms' led → ms'.Perm (if k ∈ ms then ms else ms ++ [k]) → Q (!decide (k ∈ ms)) { s with heap := h' }) :
    wpAny (model prog w) A (setAddHashed a (.int k tk) (hashInt k)) Q E s := by
  have hkey : (intKind prog w).is k (.int k tk) = true := intKind_is _ _ _ _
  obtain ⟨o, es, ep, t, ho, hex, hd, hel, e5, hb, hf, ht⟩ := id hS
  have hlen : ms.length = es.size := by rw [e5]; simp
  have mem_iff : ∀ k', k' ∈ ms ↔ ∃ e ∈ es.toList, (intKind prog w).is k' e.2 = true := fun k' => by
    have q := hS.setOf
    obtain ⟨o', es', ep', t', ho', _, hd', _, hm', _⟩ := q
    rw [ho] at ho'; cases ho'
    rw [hd] at hd'
    cases hd'
    have := hm' k'
    rw [decide_eq_true_eq] at this
    exact this
  unfold setAddHashed setAddHashedIn
  refine wpAny_holding (wpAny_bind (wpAny_setState_of ho hd hf ?_))
  dsimp only
  rw [byScan_of (knd := intKind prog w) rfl hb hel]
  simp only [↓reduceIte]
  unfold setAddByScan
  refine wpAny_bind (wpAny_bind (wpAny_rule (wpAny_bind (wpAny_setScan_of (knd := intKind prog w) (k := k) hkey ho hd hf hel ?_))))
  cases hr : List.findIdx? (fun e => (intKind prog w).is k e.2) es.toList with
  | some j =>
    dsimp only
    obtain ⟨hj, hpj, _⟩ := List.findIdx?_eq_some_iff_getElem.mp hr
    have hk : k ∈ ms := (mem_iff k).mpr ⟨es.toList[j], List.getElem_mem hj, hpj⟩
    refine wpAny_pure (wpAny_pure ?_)
    have q := h s.heap ms (Heap.SameBut.refl a s.heap) hS (by rw [if_pos hk])
    rw [decide_eq_true hk] at q
    have e : s = { s with heap := s.heap } := by cases s; rfl
    rw [e]; exact q
  | none =>
    dsimp only
    have hk : ¬ k ∈ ms := fun z => by
      obtain ⟨e, he, hp⟩ := (mem_iff k).mp z
      have := List.findIdx?_eq_none_iff.mp hr e he
      rw [hp] at this; cases this
    have q1 := layNew_perm t es (hashInt k) (.int k tk)
    have q2 := layNew_fits t es (hashInt k) (.int k tk)
    have q3 := ht.layNew es (hashInt k) (.int k tk)
    have gw : ∀ (b : Bool) {s₁ : Shared} {Q' : Unit → Shared → Prop}, Q' () s₁ → wpAny (model prog w) A (match b with | true => rule "set.scan.the-table-gave-way" | false => pure ()) Q' E s₁ :=
      fun b s₁ Q' hq => by cases b <;> first | exact wpAny_pure hq | exact wpAny_rule hq
    generalize layNew t es (hashInt k) (.int k tk) = Z at q1 q2 q3 ⊢
    obtain ⟨es1, t1, wd, gv⟩ := Z
    dsimp only at q1 q2 q3 ⊢
    rw [Array.toList_push] at q1
    have hel1 : ElemsOf (intKind prog w) es1.toList := (hel.push hkey rfl).perm q1
    have hb1 : es1.size < scanBound := by rw [← Array.length_toList, q1.length_eq, List.length_append, Array.length_toList]; show es.size + 1 < scanBound; omega
    have perm1 : (es1.toList.map fun e => valI e.2).Perm (ms ++ [k]) := by
      have := q1.map (fun e : Int × Value => valI e.2)
      rw [List.map_append] at this
      rw [e5]; exact this
    refine wpAny_bind (gw _ ?_)
    have fin : ∀ h' ms', Heap.SameBut a s.heap h' → ms'.Perm (es1.toList.map fun e => valI e.2) → SetI prog w h' a ms' led → Q true { s with heap := h' } := fun h' ms' sb pm S' => by
      have q := h h' ms' sb S' (by rw [if_neg hk]; exact pm.trans perm1)
      rw [decide_eq_false hk] at q
      exact q
    split
    · refine wpAny_bind ?_
      rw [hashByValue_scannable 8 (by rfl)]
      refine wpAny_pure ?_
      refine addTailI (led := led) ?_ ho hex hd hel1 hb1 ?_ ?_ ?_
      · intro b s₁ Q' hq; cases b <;> first | exact wpAny_pure hq | exact wpAny_rule hq
      · split
        · exact q2
        · exact SetTable.fits_plain_off q2
      · split
        · exact q3
        · exact q3.unplain
      · intro h' ms' sb pm S'; dsimp only; exact wpAny_pure (fin h' ms' sb pm S')
    · refine wpAny_bind (wpAny_pure ?_)
      simp only [↓reduceIte]
      refine addTailI (led := led) ?_ ho hex hd hel1 hb1 q2 q3 ?_
      · intro b s₁ Q' hq; cases b <;> first | exact wpAny_pure hq | exact wpAny_rule hq
      · intro h' ms' sb pm S'; dsimp only; exact wpAny_pure (fin h' ms' sb pm S')
end
end FxS

set_option genSizeOf false
set_option genInjectivity false
namespace FxS
open PySem
section
variable {prog : Program} {w : World} {A : Around} {E : Value → Shared → Prop} {s : Shared}
end
end FxS

set_option genSizeOf false
set_option genInjectivity false
namespace FxS
open PySem
section
variable {prog : Program} {w : World} {A : Around} {E : Value → Shared → Prop} {s : Shared} {o : Obj} {es : Array (Int × Value)} {ep : Nat} {t : SetTable} {a I : Addr} {i : Nat} {ord : List Value}
end
end FxS

set_option genSizeOf false
set_option genInjectivity false
namespace FxS
open PySem
section
variable {prog : Program} {w : World} {A : Around} {E : Value → Shared → Prop} {s : Shared} {o : Obj} {es : Array (Int × Value)} {ep : Nat} {t : SetTable} {a I : Addr}
end
end FxS

set_option genSizeOf false
set_option genInjectivity false
namespace FxS
open PySem PyProof.Rows
section
variable {prog : Program} {w : World} {A : Around} {R : Result → Shared → Prop} {I : Addr} {fp wr : List Addr} {G : Array GenState → Array GenState → Prop} {n : Nat} {P : Nat → Value → Prop} {St : Nat → Shared → Prop}
structure Met (val : Nat → Int) (i : Nat) (ms : List Int) : Prop where
  nd : ms.Nodup
  le : ms.length ≤ i
  mem : ∀ k, k ∈ ms ↔ ∃ j, j < i ∧ val j = k
theorem Met.zero (val : Nat → Int) : Met val 0 [] := ⟨List.nodup_nil, Nat.le_refl _, fun k => by simp⟩
theorem Met.next {val : Nat → Int} {i : Nat} {ms ms' : List Int} (m : Met val i ms) (h : ms'.Perm (if val i ∈ ms then ms else ms ++ [val i])) : Met val (i + 1) ms' := by
  by_cases c : val i ∈ ms
  · rw [if_pos c] at h
    refine ⟨h.nodup_iff.mpr m.nd, by rw [h.length_eq]; exact Nat.le_succ_of_le m.le, fun k => ?_⟩
    rw [h.mem_iff, m.mem k]
    constructor
    · rintro ⟨j, h1, h2⟩; exact ⟨j, by omega, h2⟩
    · rintro ⟨j, h1, h2⟩
      by_cases e : j = i
      · subst e; rw [← h2]; exact (m.mem _).mp c
      · exact ⟨j, by omega, h2⟩
  · rw [if_neg c] at h
    refine ⟨h.nodup_iff.mpr (List.nodup_append.mpr ⟨m.nd, by simp, fun x hx y hy z => c ?_⟩), ?_, fun k => ?_⟩
    · rw [List.mem_singleton.mp hy] at z; rw [← z]; exact hx
    · rw [h.length_eq, List.length_append, List.length_singleton]; have := m.le; omega
    · rw [h.mem_iff, List.mem_append, m.mem k, List.mem_singleton]
      constructor
      · rintro (⟨j, h1, h2⟩ | e)
        · exact ⟨j, by omega, h2⟩
        · exact ⟨i, by omega, e.symm⟩
      · rintro ⟨j, h1, h2⟩
        by_cases e : j = i
        · subst e; exact .inr h2.symm
        · exact .inl ⟨j, by omega, h2⟩
theorem set_loop {led : Bool} (W : WalksS prog w A.in1 I fp wr G n P St) (S : Addr) (hSf : S ∉ fp) (val : Nat → Int) (hval : ∀ i v, P i v → ∃ t, v = .int (val i) t) (hb : n + 1 < scanBound) :
    ∀ (k i : Nat) (s : Shared) (ms : List Int), n - i = k → i ≤ n → St i s → SetI prog w s.heap S ms led → Met val i ms →
      (∀ s' ms', Moved (S :: wr) G s s' → SetI prog w s'.heap S ms' led → Met val n ms' → R (.ok (.ret .none)) s') →
      codeAny (model prog w) A (.builtin "set.update.loop" ⟨[.ref S, .ref I], []⟩) R s := by
  have hSw : S ∉ wr := fun h => hSf (W.sub _ h)
  have hsub : ∀ b ∈ wr, b ∈ S :: wr := fun b hb => List.mem_cons_of_mem _ hb
  intro k
  induction k with
  | zero =>
    intro i s ms hk hi hst hS hm0 hR
    have hin : i = n := by omega
    subst hin
    refine codeAny_builtin F.entry_set_update_loop ?_
    rw [Around.under_plainId F.plain_set_update_loop _]
    show wpAny _ A.in1 (pyNext (.ref I) >>= _) _ _ s
    refine wpAny_bind (W.done s _ _ hst fun s' hm => ?_)
    show wpAny _ A.in1 (ret Value.none) _ _ s'
    exact wpAny_pure (hR s' ms (hm.mono hsub) (hS.sameAt fun o e => hm.heap S o hSw e) hm0)
  | succ k ih =>
    intro i s ms hk hi hst hS hm0 hR
    have hlt : i < n := by omega
    refine codeAny_builtin F.entry_set_update_loop ?_
    rw [Around.under_plainId F.plain_set_update_loop _]
    show wpAny _ A.in1 (pyNext (.ref I) >>= _) _ _ s
    refine wpAny_bind (W.item i s _ _ hlt hst fun v s' hP hst' hm => ?_)
    obtain ⟨t, rfl⟩ := hval i v hP
    have hS' := hS.sameAt (h' := s'.heap) fun o e => hm.heap S o hSw e
    show wpAny _ A.in1 (holding [Value.int (val i) t] (setAdd S (.int (val i) t)) >>= _) _ _ s'
    refine wpAny_bind (wpAny_holding ?_)
    unfold setAdd
    refine wpAny_holding ?_
    refine wpAny_bind ((intKind prog w).pyHash (k := val i) (intKind_is _ _ _ _) ?_)
    refine addI (s := { s' with toks := s'.toks + 1 }) hS' (by have := hm0.le; omega) fun h' ms' hsb hS2 hp => ?_
    refine wpAny_pure ⟨plainId_quiet F.plain_set_update_loop _, ih (i + 1) _ ms' (by omega) hlt (W.frame _ s' _ _ hst' (Nat.le_succ _) fun b hb o e => ?_) hS2 (hm0.next hp) fun s'' ms'' hm'' hS'' hm2 => ?_⟩
    · rw [hsb.2 b (fun h : b = S => hSf (by rw [← h]; exact hb))]; exact e
    · refine hR s'' ms'' (Moved.trans W.gtrans ((hm.mono hsub).then_heap (Nat.le_succ _) fun b o hb e => ?_) hm'') hS'' hm2
      rw [hsb.2 b (fun h : b = S => hb (by rw [h]; exact List.mem_cons_self))]; exact e
end
end FxS

set_option genSizeOf false
set_option genInjectivity false
namespace FxS
open PySem PyProof.Rows
section
variable {prog : Program} {w : World} {A : Around} {E : Value → Shared → Prop} {s : Shared}
theorem new_set (a : Value) {Q₁ : Value → Shared → Prop}
    (h : Q₁ (.ref s.heap.objs.size) { s with heap := s.heap.push { cls := .type "set", dict := none, data := .set #[] 0 (.fresh 0 0 (!w.params.followText "set-order")) } }) :
    codeAny (model prog w) A (.call (.builtin "set.__new__") ⟨[.type "set", a], []⟩) (wants Q₁ E) s := by
  refine codeAny_of_tree ?_
  show wpAny _ A.in1 (do checkBuiltinCall "set.__new__" ⟨[.type "set", a], []⟩; again (.builtin "set.__new__" ⟨[.type "set", a], []⟩)) _ _ s
  refine wpAny_bind (wpAny_of_eq (PySem.F.newCall_set_1 a) (wpAny_pure ⟨plainId_quiet PySem.F.plain_set_new _, codeAny_builtin PySem.F.entry_set_new ?_⟩))
  rw [Around.under_plainId PySem.F.plain_set_new _]
  unfold Builtin.«set.__new__» Builtin.Frozenset.newClass
  have hsub := sub_set_self
  obtain ⟨hp, g, d, tk, os⟩ := s
  dsimp only
  wp_walk
  refine wpAny_askSetting (wpAny_pure ?_)
  dsimp only
  simp only [newObj]
  refine wpAny_bind (wpAny_alloc (wpAny_pure ?_))
  exact wpAny_pure h
theorem set_fresh {h : Heap} {a : Addr} {led : Bool} (e : h.get? a = some { cls := .type "set", dict := none, data := .set #[] 0 (.fresh 0 0 led) }) : SetI prog w h a [] led :=
  ⟨_, #[], 0, _, e, ⟨rfl, rfl, rfl⟩, rfl, fun x hx => by simp at hx, rfl, by decide, by rfl, TabOk.fresh led 0 0⟩
theorem set_of_list {l : Addr} {items : Array Value} {ns : List Int} {Q : Value → Shared → Prop}
    (hh : A.handled = none) (hl : s.heap.IsList l items) (hi : PyProof.Rows.IntsAre items.toList ns) (hb : items.size + 1 < scanBound)
    (h : ∀ (h' : Heap) (tk : Nat) (ms : List Int), SetI prog w h' s.heap.objs.size ms (!w.params.followText "set-order") → Met (fun i => ns.getD i 0) items.size ms →
      (∀ b o, b < s.heap.objs.size → s.heap.get? b = some o → h'.get? b = some o) → Q (.ref s.heap.objs.size) { s with heap := h', toks := tk }) :
    wpAny (model prog w) A (call (.type "set") [.ref l]) Q E s := by
  obtain ⟨c, tl, hmro⟩ := PySem.F.called_set.mro
  have hmade := PySem.F.called_set.made
  have hsub := PySem.F.called_set.sub
  refine wpAny_call (codeAny_of_tree ?_)
  show wpAny _ _ (callAny (.type "set") _) _ _ _
  refine wpAny_pure ⟨Code.quiet_builtin _ (by decide +kernel), codeAny_builtin PySem.F.entry_type_call ?_⟩
  rw [Around.under_plain (weight_type_call_type "set" [.ref l] []) rfl]
  have h1 := PySem.F.called_set.notType
  have h2 := PySem.F.called_set.canCreate
  have hct := PySem.F.typeCall_set_1 (.ref l)
  repeat (any_goals (first | assumption | wp_step))
  refine codeAny_mono (new_set (.ref l) (E := E) (Q₁ := fun obj s₁ => obj = .ref s.heap.objs.size ∧ s₁ = { s with heap := s.heap.push { cls := .type "set", dict := none, data := .set #[] 0 (.fresh 0 0 (!w.params.followText "set-order")) } }) ⟨rfl, rfl⟩) fun r s₁ hr => ?_
  cases r with
  | error e => exact hr
  | ok fl =>
    cases fl with
    | ret obj =>
      obtain ⟨rfl, rfl⟩ := hr
      generalize hled : (!w.params.followText "set-order") = led at h ⊢
      have hS : (s.heap.push { cls := .type "set", dict := none, data := .set #[] 0 (.fresh 0 0 led) }).get? s.heap.objs.size = some { cls := .type "set", dict := none, data := .set #[] 0 (.fresh 0 0 led) } := Heap.get?_push_size _ rfl
      have hT : Shared.TypeIs { s with heap := s.heap.push { cls := .type "set", dict := none, data := .set #[] 0 (.fresh 0 0 led) } } (.ref s.heap.objs.size) "set" := ⟨_, hS, rfl⟩
      have hli := PySem.F.called_set.init.lookup
      have hbi := PySem.F.called_set.init.bind (.ref s.heap.objs.size)
      repeat (any_goals (first | assumption | wp_step))
      refine codeAny_mono (codeAny_call_builtin (R := wants (fun r s₂ => r = .none ∧ ∃ h' tk ms, s₂ = { s with heap := h', toks := tk } ∧
          SetI prog w h' s.heap.objs.size ms led ∧ Met (fun i => ns.getD i 0) items.size ms ∧
          (∀ b o, b < s.heap.objs.size → s.heap.get? b = some o → h'.get? b = some o)) E) PySem.F.called_set.init.plain PySem.F.entry_set_init (check_set_init_1 hT ?_)) fun r₂ s₂ hr₂ => ?_
      · obtain ⟨ol, hol, hcl, nl, hdl⟩ := hl
        obtain ⟨ocls, odict, odata, oslots⟩ := ol
        simp only at hcl hdl
        subst hcl; subst hdl
        have hol' : (s.heap.push { cls := .type "set", dict := none, data := .set #[] 0 (.fresh 0 0 led) }).get? l = some { cls := .type "list", dict := odict, data := .seq items nl, slots := oslots } := Heap.get?_push_of_some _ hol
        have hsls := PySem.F.sub_list_set
        have hslf := PySem.F.sub_list_frozenset
        have hne : (Value.type "list" == Value.type "dict") = false := by decide
        have hl1 : (s.heap.push { cls := .type "set", dict := none, data := .set #[] 0 (.fresh 0 0 led) }).IsList l items := ⟨_, hol', rfl, nl, rfl⟩
        unfold Builtin.«set.__init__» noKeywords Builtin.Frozenset.updateFrom
        generalize hPI : pyIter = PI
        wp_walk
        subst hPI
        refine wpAny_pyIter_list hl1 ?_
        refine wpAny_bind (wpAny_runValue ?_)
        have hlS : l < s.heap.objs.size := Heap.lt_size hol
        have hh3 : A.in1.in1.in1.handled = none := by simp [hh]
        have hneI : l ≠ (s.heap.push { cls := .type "set", dict := none, data := .set #[] 0 (.fresh 0 0 led) }).objs.size := by
          rw [Heap.size_push]; exact Nat.ne_of_lt (Nat.lt_succ_of_lt hlS)
        have hSf : s.heap.objs.size ∉ [(s.heap.push { cls := .type "set", dict := none, data := .set #[] 0 (.fresh 0 0 led) }).objs.size, l] := by
          rw [Heap.size_push]; simp only [List.mem_cons, List.mem_singleton, List.not_mem_nil, or_false, not_or]
          exact ⟨Nat.ne_of_lt (Nat.lt_succ_self _), Nat.ne_of_gt hlS⟩
        have hval : ∀ (i : Nat) (v : Value), items[i]? = some v → ∃ t, v = .int ((fun i => ns.getD i 0) i) t := fun i v hv =>
          PyProof.Rows.IntsAre.int_at hi i v (by rw [Array.getElem?_toList]; exact hv)
        refine set_loop (led := led) ((Walks.list hh3 _ l hneI items).toS) s.heap.objs.size
          hSf (fun i => ns.getD i 0) hval hb (items.size - 0) 0 _ [] (by omega) (Nat.zero_le _)
          ⟨⟨_, Heap.get?_push_size _ rfl, rfl, rfl⟩, (hl1.push _)⟩ (set_fresh (Heap.get?_push_of_some _ hS)) (Met.zero _) ?hR
        intro s' ms hm hS' hM
        obtain ⟨h', g', d', tk', os'⟩ := s'
        have eg : g' = s.gens := hm.gens
        have ed : d' = s.drawn := hm.drawn
        have eo : os' = s.os := hm.os
        subst eg; subst ed; subst eo
        show wpAny _ _ _ _ _ _
        refine wpAny_pure ?_
        show wpAny _ _ (ret Value.none) _ _ _
        refine wpAny_pure ⟨rfl, h', tk', ms, rfl, hS', hM, fun b o hb e => ?_⟩
        have hb1 : b ≠ s.heap.objs.size := Nat.ne_of_lt hb
        have hb2 : b ≠ (s.heap.push { cls := .type "set", dict := none, data := .set #[] 0 (.fresh 0 0 led) }).objs.size := by
          rw [Heap.size_push]; exact Nat.ne_of_lt (Nat.lt_succ_of_lt hb)
        exact hm.heap b o (by simp only [List.mem_cons, List.mem_singleton, List.not_mem_nil, or_false, not_or]; exact ⟨hb1, hb2⟩) (Heap.get?_push_of_some _ (Heap.get?_push_of_some _ e))
      · cases r₂ with
        | error e => exact hr₂
        | ok fl₂ =>
          cases fl₂ with
          | ret r =>
            obtain ⟨rfl, h', tk, ms, rfl, hS', hM, hk'⟩ := hr₂
            repeat (any_goals (first | assumption | wp_step))
            exact h _ _ _ hS' hM hk'
          | _ => exact hr₂.elim
    | _ => exact hr.elim
end
end FxS

set_option genSizeOf false
set_option genInjectivity false
namespace FxS
open PySem PyProof.Rows
section
variable {prog : Program} {w : World} {A : Around} {E : Value → Shared → Prop} {s : Shared}
end
end FxS

set_option genSizeOf false
set_option genInjectivity false
namespace L2
open PySem PySem.Spec PyProof.Rows
section
variable {X : Cx}

noncomputable def CDivB (_ j : Int) : Prop := 0 < j ∧ j < 2 ^ 200
theorem op_fdivB : OpR X (binaryOp .FloorDiv) (rI CDivB fun i j => .int (i / j)) := opI fun i j _ _ _ _ _ hc q => by
  have h1 : (0 : Int) < j := hc.1
  have h2 : j < 2 ^ 200 := hc.2
  have h3 : j.natAbs.log2 < 9000 := by
    have h0 : j.natAbs ≠ 0 := by omega
    have h4 : j.natAbs < 2 ^ 200 := by
      have : ((j.natAbs : Nat) : Int) < ((2 ^ 200 : Nat) : Int) := by
        rw [Int.natAbs_of_nonneg (by omega)]
        exact h2
      exact Int.ofNat_lt.mp this
    exact Nat.lt_of_lt_of_le ((Nat.log2_lt h0).mpr h4) (by decide)
  exact floordiv_int (by omega) (by rw [Int.fdiv_eq_ediv_of_nonneg i (by omega)]; exact q) (.inl (PyProof.noPylong_of_log2 h3))

noncomputable def kitB0 (T T' : String) : Option Bool := if (T == T') = true then some true else if PySem.W.kitMeta T' = true then (fastBuiltinMro T).map (·.contains (.type T')) else none
theorem kitB {K : PySem.W.Frag} {T T' : String} {b : Bool} (h : kitB0 T T' = some b) : PySem.W.kitOne K (.type T) (.type T') = some b := by
  unfold kitB0 at h
  unfold PySem.W.kitOne
  by_cases e : T = T'
  · subst e
    rw [if_pos (by simp)] at h ⊢
    exact h
  · rw [if_neg (by simpa using e)] at h
    rw [if_neg (by simpa using e)]
    exact h
theorem call_isi : CallR X (.builtin "isinstance") (fun xs H Q => ∃ x T t b, xs = [x, .ty T] ∧ TyOf X.K H x t ∧ PySem.W.kitOne X.K t (.type T) = some b ∧ Q (.bl b) H) := by
  intro pins s σ H xs us Q I r h
  obtain ⟨x, T, t, b, rfl, ty, e, q⟩ := h
  obtain ⟨u, c, rfl, rx, rc⟩ := vals2 r
  cases (show c = Value.type T from rc)
  exact isinst_ok I rx ty e fun tk => ⟨.bl b, H, I.tok tk, rfl, q⟩
theorem call_isiC : CallR X (.builtin "isinstance") (fun xs H Q => ∃ x C t b, xs = [x, .ref C] ∧ TyOf X.K H x t ∧ PySem.W.kitOne X.K t (.ref C) = some b ∧ Q (.bl b) H) := by
  intro pins s σ H xs us Q I r h
  obtain ⟨x, C, t, b, rfl, ty, e, q⟩ := h
  obtain ⟨u, c, rfl, rx, rc⟩ := vals2 r
  cases (show c = Value.ref C from rc)
  exact isinst_ok I rx ty e fun tk => ⟨.bl b, H, I.tok tk, rfl, q⟩

noncomputable def rngO (r : Addr) (a b c : Int) : HO := .ext fun h => ∃ t u v, IsRange h r a b c t u v
theorem rng_laid {pins : List (Addr × Obj)} {σ : St} {H : Hp} {s : Shared} {a b c : Int} {t u v : Tok} {tk : Nat} (I : Inv X pins σ H s) :
    Inv X pins σ (upd H s.heap.objs.size (rngO s.heap.objs.size a b c)) { s with heap := s.heap.push { cls := .type "range", data := .fields #[.int a t, .int b u, .int c v] }, toks := tk } :=
  I.laid (fun _ _ q => Heap.get?_push_of_some _ q) (Nat.le_refl _) ⟨⟨t, u, v, IsRange.new ..⟩, ⟨_, Heap.get?_push_size _ rfl⟩, fun h1 h2 ⟨t, u, v, e⟩ k => ⟨t, u, v, k _ e⟩⟩
noncomputable def rRange : List V → Hp → VK → Prop := fun xs H Q => ∃ a b c, (xs = [.int b] ∧ a = 0 ∧ c = 1 ∨ xs = [.int a, .int b] ∧ c = 1 ∨ xs = [.int a, .int b, .int c] ∧ c ≠ 0 ∧ c.natAbs < 1073741824) ∧ ∀ r, H r = none → Q (.ref r) (upd H r (rngO r a b c))
theorem call_rangeV : CallR X (.type "range") rRange := by
  intro pins s σ H xs us Q I r h
  obtain ⟨a, b, c, h1, q⟩ := h
  have hf : H s.heap.objs.size = none := I.hok.fresh (Nat.le_refl _)
  rcases h1 with ⟨e, e2, e3⟩ | ⟨e, e3⟩ | ⟨e, e2, e3⟩
  · subst e; subst e2; subst e3
    obtain ⟨u, rfl, ru⟩ := vals1 r
    obtain ⟨t, rfl⟩ := ru
    exact call_range_1 ⟨.ref _, _, rng_laid I, rfl, q _ hf⟩
  · subst e; subst e3
    obtain ⟨u, u2, rfl, ru, ru2⟩ := vals2 r
    obtain ⟨t, rfl⟩ := ru
    obtain ⟨t2, rfl⟩ := ru2
    exact call_range_2 ⟨.ref _, _, rng_laid I, rfl, q _ hf⟩
  · subst e
    cases r with
    | cons r1 r =>
      cases r with
      | cons r2 r =>
        cases r with
        | cons r3 r =>
          cases r
          obtain ⟨t, rfl⟩ := r1
          obtain ⟨t2, rfl⟩ := r2
          obtain ⟨t3, rfl⟩ := r3
          exact call_range_3 e2 ⟨.ref _, _, rng_laid I, rfl, q _ hf⟩ (.inl (PyProof.noPylong_small e3))
noncomputable def rngL (a c : Int) (n : Nat) : List Int := (List.range n).map fun (i : Nat) => a + (i : Int) * c
theorem rngL_length (a c : Int) (n : Nat) : (rngL a c n).length = n := by unfold rngL; simp
theorem ItemsOf.vals {a c : Int} {acc : Array Value} {n : Nat} (h : ItemsOf (fun i v => ∃ t, v = .int (a + i * c) t) acc n) : Vals ((rngL a c n).map V.int) acc.toList := by
  have key : ∀ (vs : List Value) (k : Nat), (∀ j v, vs[j]? = some v → ∃ t, v = Value.int (a + ((k + j : Nat) : Int) * c) t) → Vals ((List.range' k vs.length).map fun (i : Nat) => V.int (a + (i : Int) * c)) vs := by
    intro vs
    induction vs with
    | nil => intro k _; exact .nil
    | cons v r ih =>
      intro k hv
      rw [List.length_cons, List.range'_succ, List.map_cons]
      refine .cons (hv 0 v rfl) (ih (k + 1) fun j w e => ?_)
      obtain ⟨t, ht⟩ := hv (j + 1) w e
      exact ⟨t, by rw [ht, show k + (j + 1) = k + 1 + j by omega]⟩
  have h1 := key acc.toList 0 fun j v e => by
    obtain ⟨t, ht⟩ := h.2 j v (by rw [← Array.getElem?_toList]; exact e)
    exact ⟨t, by rw [ht, Nat.zero_add]⟩
  have hl : acc.toList.length = n := by rw [Array.length_toList]; exact h.1
  rw [hl] at h1
  unfold rngL
  rw [List.map_map, List.range_eq_range']
  exact h1
theorem call_listR (hc : X.calm = true) : CallR X (.type "list") (fun xs H Q => ∃ (r : Addr) (a b c : Int) (n : Nat), xs = [.ref r] ∧ H r = some (rngO r a b c) ∧ Builtin.Range.small a b c = true ∧ Builtin.Range.rangeSize a b c = ((n : Nat) : Int) ∧ n ≤ 2 ^ 24 ∧ ∀ l, H l = none → Q (.ref l) (upd H l (.lst ((rngL a c n).map V.int)))) := by
  intro pins s σ H xs us Q I r h
  obtain ⟨p, a, b, c, n, rfl, hp, h1, h2, h3, q⟩ := h
  obtain ⟨u, rfl, rx⟩ := vals1 r
  cases rx
  obtain ⟨⟨t, u, v, e⟩, _⟩ := I.hok p _ hp
  refine call_list_range (I.ok.hd hc) e h1 h2 h3 fun h' tk acc' c' kp e' hi => ?_
  have hz : n ≤ sizeLine := Nat.le_trans h3 (by rw [sizeLine_eq]; decide)
  refine ⟨.ref s.heap.objs.size, _, I.laid (t' := tk) kp (Nat.le_refl _) (show ObjOk X.prog X.w _ h' _ (.lst ((rngL a c n).map V.int)) from ⟨by rw [List.length_map, rngL_length]; exact hz, acc'.toList, c', ItemsOf.vals hi, by simpa using e'⟩), rfl, q _ (I.hok.fresh (Nat.le_refl _))⟩

theorem isL_lt {h : Heap} {p : Addr} {its : Array Value} (x : h.IsList p its) : p < h.objs.size := let ⟨_, e, _⟩ := x; Heap.lt_size e
theorem it_new {pins : List (Addr × Obj)} {σ : St} {H : Hp} {s s' : Shared} {o : Obj} (I : Inv X pins σ H s) (hm : Moved [s.heap.objs.size] (fun a b => b = a) { s with heap := s.heap.push o } s') : Inv X pins σ H s' := by
  rw [Moved.eq_with hm]
  exact I.kept (h' := s'.heap) (t' := s'.toks) fun b ob e => hm.heap b ob (by simpa using Nat.ne_of_lt (Heap.lt_size e)) (Heap.get?_push_of_some _ e)
theorem call_sumI (hc : X.calm = true) : CallR X (.builtin "sum") (fun xs H Q => ∃ (p : Addr) (ns : List Int), xs = [.ref p] ∧ SqL X.K H p (ns.map V.int) ∧ Q (.int ns.sum) H) := by
  intro pins s σ H xs us Q I r h
  obtain ⟨p, ns, rfl, hq, q⟩ := h
  obtain ⟨u, rfl, ru⟩ := vals1 r
  cases ru
  obtain ⟨its, rv, pl, hz⟩ := I.list hq
  have hi := intsAre_of rv
  have hl := hi.length
  refine call_sum_walkAnyS (wpAny_pyIter_list pl.isList ?_)
  have hne : p ≠ s.heap.objs.size := Nat.ne_of_lt (isL_lt pl.isList)
  refine ⟨s.heap.objs.size, _, _, _, its.toArray.size, _, _, fun i => ns.getD i 0, rfl, (Walks.list (prog := X.prog) (w := X.w) (A := X.A.in1) (I.ok.hd hc) s.heap.objs.size p hne its.toArray).toS, ⟨⟨_, Heap.get?_push_size _ rfl, rfl, rfl⟩, pl.isList.push _⟩, fun b hb => ?_, fun i v e => ?_, fun s' t' hm => ?_⟩
  · rw [Heap.size_push]
    rcases List.mem_cons.mp hb with e | hb
    · rw [e]; exact Nat.lt_succ_self _
    · rw [List.mem_singleton.mp hb]; exact Nat.lt_succ_of_lt (isL_lt pl.isList)
  · exact hi.int_at i v (by simpa using e)
  · refine ⟨.int ns.sum, H, it_new I hm, ⟨t', ?_⟩, q⟩
    rw [preSum_getD, List.size_toArray, List.take_of_length_le (by omega)]
theorem all_range (bs : List Bool) : (List.range bs.length).all (fun i => bs.getD i false) = bs.all id := by
  rw [Bool.eq_iff_iff]
  simp only [List.all_eq_true, List.mem_range, id]
  constructor
  · intro h b hb
    obtain ⟨i, hi, e⟩ := List.getElem_of_mem hb
    have := h i hi
    rw [List.getD_eq_getElem?_getD, List.getElem?_eq_getElem hi] at this
    rw [← e]; exact this
  · intro h i hi
    rw [List.getD_eq_getElem?_getD, List.getElem?_eq_getElem hi]
    exact h _ (List.getElem_mem hi)
theorem any_range (bs : List Bool) : (List.range bs.length).any (fun i => bs.getD i false) = bs.any id := by
  rw [Bool.eq_iff_iff]
  simp only [List.any_eq_true, List.mem_range, id]
  constructor
  · rintro ⟨i, hi, h⟩
    rw [List.getD_eq_getElem?_getD, List.getElem?_eq_getElem hi] at h
    exact ⟨_, List.getElem_mem hi, h⟩
  · rintro ⟨b, hb, h⟩
    obtain ⟨i, hi, e⟩ := List.getElem_of_mem hb
    refine ⟨i, hi, ?_⟩
    rw [List.getD_eq_getElem?_getD, List.getElem?_eq_getElem hi, e]
    exact h
theorem truth_of {P : Program} {w : World} {A : Around} {bs : List Bool} {its : List Value} (rv : Vals (bs.map V.bl) its) : TruthOf P w A (fun i v => its.toArray[i]? = some v) (fun i => bs.getD i false) := by
  intro i v s Q' E' e hQ
  have hl := rv.length
  rw [List.length_map] at hl
  have e2 : its[i]? = some v := by simpa using e
  have hi : i < bs.length := by have := (List.getElem?_eq_some_iff.mp e2).1; omega
  obtain ⟨w', ew, rw'⟩ := rv.get (i := i) (x := .bl (bs.getD i false)) (by rw [List.getElem?_map, List.getElem?_eq_getElem hi, List.getD_eq_getElem?_getD, List.getElem?_eq_getElem hi]; rfl)
  rw [e2] at ew; cases ew
  cases rw'
  exact wpAny_truthy_bool hQ
theorem call_allB (hc : X.calm = true) : CallR X (.builtin "all") (fun xs H Q => ∃ (p : Addr) (bs : List Bool), xs = [.ref p] ∧ SqL X.K H p (bs.map V.bl) ∧ Q (.bl (bs.all id)) H) := by
  intro pins s σ H xs us Q I r h
  obtain ⟨p, bs, rfl, hq, q⟩ := h
  obtain ⟨u, rfl, ru⟩ := vals1 r
  cases ru
  obtain ⟨its, rv, pl, hz⟩ := I.list hq
  have hl := rv.length
  rw [List.length_map] at hl
  refine call_all_walkS (wpAny_pyIter_list pl.isList ?_)
  have hne : p ≠ s.heap.objs.size := Nat.ne_of_lt (isL_lt pl.isList)
  refine ⟨s.heap.objs.size, _, _, _, its.toArray.size, _, _, fun i => bs.getD i false, rfl, (Walks.list (prog := X.prog) (w := X.w) (A := X.A.in1) (I.ok.hd hc) s.heap.objs.size p hne its.toArray).toS, ⟨⟨_, Heap.get?_push_size _ rfl, rfl, rfl⟩, pl.isList.push _⟩, truth_of rv, fun s' hm => ?_⟩
  refine ⟨.bl (bs.all id), H, it_new I hm, ?_, q⟩
  show Value.bool _ = Value.bool _
  congr 1
  rw [List.size_toArray, ← hl]
  exact all_range bs
theorem call_anyB (hc : X.calm = true) : CallR X (.builtin "any") (fun xs H Q => ∃ (p : Addr) (bs : List Bool), xs = [.ref p] ∧ SqL X.K H p (bs.map V.bl) ∧ Q (.bl (bs.any id)) H) := by
  intro pins s σ H xs us Q I r h
  obtain ⟨p, bs, rfl, hq, q⟩ := h
  obtain ⟨u, rfl, ru⟩ := vals1 r
  cases ru
  obtain ⟨its, rv, pl, hz⟩ := I.list hq
  have hl := rv.length
  rw [List.length_map] at hl
  refine call_any_walkS (wpAny_pyIter_list pl.isList ?_)
  have hne : p ≠ s.heap.objs.size := Nat.ne_of_lt (isL_lt pl.isList)
  refine ⟨s.heap.objs.size, _, _, _, its.toArray.size, _, _, fun i => bs.getD i false, rfl, (Walks.list (prog := X.prog) (w := X.w) (A := X.A.in1) (I.ok.hd hc) s.heap.objs.size p hne its.toArray).toS, ⟨⟨_, Heap.get?_push_size _ rfl, rfl, rfl⟩, pl.isList.push _⟩, truth_of rv, fun s' hm => ?_⟩
  refine ⟨.bl (bs.any id), H, it_new I hm, ?_, q⟩
  show Value.bool _ = Value.bool _
  congr 1
  rw [List.size_toArray, ← hl]
  exact any_range bs

theorem sorted_laid {pins : List (Addr × Obj)} {σ : St} {H : Hp} {s : Shared} {Q : VK} {h1 h' : Heap} {tk : Nat} {d : Drawn} {D : Addr} {out : Array Value} {e : Nat} {ns : List Int} (I : Inv X pins σ H s) (k1 : ∀ b o, s.heap.get? b = some o → h1.get? b = some o)
    (k2 : ∀ b o, h1.get? b = some o → h'.get? b = some o) (hD : h1.objs.size ≤ D) (g : h'.get? D = some (seqObj "list" out e)) (i : IntsAre out.toList ns) (hz : ns.length ≤ sizeLine) (q : H D = none → Q (.ref D) (upd H D (.lst (ns.map V.int)))) :
    EP X pins σ Q (.ref D) { s with heap := h', toks := tk, drawn := d } := by
  have hk1 := I.hok.kept k1
  have hf : H D = none := hk1.fresh hD
  have ob : ObjOk X.prog X.w (upd H D (.lst (ns.map V.int))) h' D (.lst (ns.map V.int)) := ⟨by rw [List.length_map]; exact hz, out.toList, e, vals_ints i, by simpa [seqObj] using g⟩
  have hok : HOk X.prog X.w (upd H D (.lst (ns.map V.int))) h' := hk1.laid k2 hD ob
  refine ⟨.ref D, _, I.call' (s' := { s with heap := h', toks := tk, drawn := d }) (ch := []) rfl ?_ hok I.bare (fun b z => absurd z (by simp)), rfl, q hf⟩
  have u1 : Un (frs X.stack) [] H H s.heap h1 := Un.kept k1
  exact u1.trans (Un.laid k2 hD hf)
noncomputable def setO (P : Program) (w : World) (a : Addr) (ms : List Int) : HO := .ext fun h => FxS.SetI P w h a ms (!w.params.followText "set-order")
theorem call_setL (hc : X.calm = true) : CallR X (.type "set") (fun xs H Q => ∃ (p : Addr) (ns : List Int), xs = [.ref p] ∧ SqL X.K H p (ns.map V.int) ∧ ns.length < 4000 ∧ ∀ (a : Addr) (ms : List Int), H a = none → ms.Nodup → (∀ k, k ∈ ms ↔ k ∈ ns) → ms.length ≤ ns.length → Q (.ref a) (upd H a (setO X.prog X.w a ms))) := by
  intro pins s σ H xs us Q I r h
  obtain ⟨p, ns, rfl, hq, h64, q⟩ := h
  obtain ⟨u, rfl, ru⟩ := vals1 r
  cases ru
  obtain ⟨its, rv, pl, hz⟩ := I.list hq
  have hi := intsAre_of rv
  have hl := hi.length
  refine FxS.set_of_list (ns := ns) (I.ok.hd hc) pl.isList (by simpa using hi) (by rw [List.size_toArray]; unfold scanBound; omega) fun h' tk ms S M old => ?_
  have k1 : ∀ b o, s.heap.get? b = some o → h'.get? b = some o := fun b o e => old b o (Heap.lt_size e) e
  have hf : H s.heap.objs.size = none := I.hok.fresh (Nat.le_refl _)
  have ex : ∃ o, h'.get? s.heap.objs.size = some o := let ⟨o, _, _, _, e, _⟩ := S; ⟨o, e⟩
  refine ⟨.ref s.heap.objs.size, _, I.laid (t' := tk) k1 (Nat.le_refl _) (o := setO X.prog X.w s.heap.objs.size ms) ⟨S, ex, fun h1 h2 z k => FxS.SetI.sameAt z k⟩, rfl, q _ ms hf M.nd (fun k => ?_) (by have := M.le; rw [List.size_toArray] at this; omega)⟩
  rw [M.mem k, List.size_toArray]
  constructor
  · rintro ⟨j, h1, h2⟩
    rw [← h2]
    have hj : j < ns.length := by omega
    show ns.getD j 0 ∈ ns
    rw [List.getD_eq_getElem?_getD, List.getElem?_eq_getElem hj]
    exact List.getElem_mem hj
  · intro hk
    obtain ⟨j, hj, e⟩ := List.getElem_of_mem hk
    exact ⟨j, by omega, by show ns.getD j 0 = k; rw [List.getD_eq_getElem?_getD, List.getElem?_eq_getElem hj]; exact e⟩
end
end L2

set_option genSizeOf false
set_option genInjectivity false
namespace L2
open PySem PySem.Spec PyProof.Rows PySem.SeqAt

inductive EqE (H : Hp) : V → V → Bool → Prop where
  | int (i j : Int) : EqE H (.int i) (.int j) (decide (i = j))
  | bl (i j : Bool) : EqE H (.bl i) (.bl j) (decide (i = j))
  | str (i j : Str) : EqE H (.str i) (.str j) (decide (i = j))
  | tup {a b : Addr} {ns ms : List Int} (ha : H a = some (.tup (ns.map V.int))) (hb : H b = some (.tup (ms.map V.int))) : EqE H (.ref a) (.ref b) (decide (ns = ms))
theorem all_eq_ints : ∀ (ns ms : List Int), ((List.range (min ns.length ms.length)).all (fun j => decide (ns.getD j 0 = ms.getD j 0)) && decide (ns.length = ms.length)) = decide (ns = ms) := by
  intro ns ms
  rw [Bool.eq_iff_iff, Bool.and_eq_true, decide_eq_true_eq, decide_eq_true_eq, List.all_eq_true]
  constructor
  · rintro ⟨h1, h2⟩
    refine List.ext_getElem h2 fun i hi hj => ?_
    have := h1 i (List.mem_range.mpr (by omega))
    rw [decide_eq_true_eq, List.getD_eq_getElem?_getD, List.getD_eq_getElem?_getD, List.getElem?_eq_getElem hi, List.getElem?_eq_getElem hj] at this
    exact this
  · rintro rfl
    exact ⟨fun j _ => by simp, rfl⟩
theorem ints_inj : ∀ {ns ms : List Int}, ns.map V.int = ms.map V.int → ns = ms
  | [], [], _ => rfl
  | [], _ :: _, h => by simp at h
  | _ :: _, [], h => by simp at h
  | n :: ns, m :: ms, h => by
    simp only [List.map_cons, List.cons.injEq, V.int.injEq] at h
    rw [h.1, ints_inj h.2]
section
variable {X : Cx}
theorem units_in1 {A : Around} : A.in1.units = A.units + 1 := rfl
theorem eqE_at {pins : List (Addr × Obj)} {σ : St} {H : Hp} {s : Shared} {A : Around} {x y : V} {u v : Value} {b : Bool} (I : Inv X pins σ H s) (rx : RelV x u) (ry : RelV y v) (hu : A.units < cLine) (e : EqE H x y b) : EqAt A s u v b := by
  cases e with
  | int i j =>
    obtain ⟨t, rfl⟩ := rx
    obtain ⟨t', rfl⟩ := ry
    have := EqAt.int_int (A := A) (s := s) i t j t'
    rw [Bool.beq_eq_decide_eq] at this
    exact this
  | bl i j =>
    cases rx; cases ry
    have := EqAt.bool_bool (A := A) (s := s) i j
    rw [Bool.beq_eq_decide_eq] at this
    exact this
  | str i j =>
    obtain ⟨t, rfl⟩ := rx
    obtain ⟨t', rfl⟩ := ry
    have := EqAt.str_str (A := A) (s := s) i t j t'
    rw [Bool.beq_eq_decide_eq] at this
    exact this
  | @tup a b ns ms ha hb =>
    cases rx; cases ry
    by_cases hab : a = b
    · subst hab
      rw [ha] at hb
      have e : ns.map V.int = ms.map V.int := by injection hb with h; injection h
      have e2 : ns = ms := ints_inj e
      subst e2
      rw [decide_eq_true rfl]
      exact EqAt.same _
    · obtain ⟨i1, r1, p1, z1⟩ := I.tuple (SqT.of (K := X.K) ha)
      obtain ⟨i2, r2, p2, z2⟩ := I.tuple (SqT.of (K := X.K) hb)
      have n1 := intsAre_of r1
      have n2 := intsAre_of r2
      have l1 := n1.length
      have l2 := n2.length
      refine EqAt.of_refs hab ?_
      have q := RcAt.tuples (A := A) (s := s) (l := a) (b := b) (items := i1.toArray) (items2 := i2.toArray) (e := fun j => decide (ns.getD j 0 = ms.getD j 0)) p1 p2 hu (fun j h1 h2 => by
        obtain ⟨t, q1⟩ := n1.int_at j _ (show i1[j]? = some i1.toArray[j] by simp at h1; simp [h1])
        obtain ⟨t', q2⟩ := n2.int_at j _ (show i2[j]? = some i2.toArray[j] by simp at h2; simp [h2])
        rw [q1, q2]
        have := EqAt.int_int (A := A.in1) (s := s) (ns.getD j 0) t (ms.getD j 0) t'
        rw [Bool.beq_eq_decide_eq] at this
        exact this)
      rw [List.size_toArray, List.size_toArray, l1, l2] at q
      have e : ((List.range (min ns.length ms.length)).all (fun j => decide (ns.getD j 0 = ms.getD j 0)) && ns.length == ms.length) = decide (ns = ms) := by
        rw [← all_eq_ints ns ms, Bool.beq_eq_decide_eq]
      rw [e] at q
      exact q
theorem eqL_core {pins : List (Addr × Obj)} {σ : St} {H : Hp} {s : Shared} {p q : Addr} {xs ys : List V} {e : Nat → Bool} {Q : Value → Shared → Prop} (I : Inv X pins σ H s) (hu : X.A.units + 64 < cLine) (hp : SqL X.K H p xs) (hq : SqL X.K H q ys)
    (he : ∀ (j : Nat) a b, xs[j]? = some a → ys[j]? = some b → EqE H a b (e j)) (h : Q (.bool (decide (xs.length = ys.length) && (List.range xs.length).all e)) s) : wpAny (model X.prog X.w) X.A (compareOp .Eq (.ref p) (.ref q)) Q X.xe s := by
  obtain ⟨i1, r1, p1, z1⟩ := I.list hp
  obtain ⟨i2, r2, p2, z2⟩ := I.list hq
  have l1 := r1.length
  have l2 := r2.length
  have hu0 : X.A.units < cLine := by omega
  by_cases c : xs.length = ys.length
  · rw [decide_eq_true c, Bool.true_and, l1] at h
    refine eq_listAt (e := e) p1.isList p2.isList (by simp; omega) hu0 (fun j h1 h2 => ?_) (by simpa using h)
    simp at h1 h2
    obtain ⟨a, ha⟩ : ∃ a, xs[j]? = some a := ⟨_, List.getElem?_eq_getElem (by omega)⟩
    obtain ⟨b, hb⟩ : ∃ b, ys[j]? = some b := ⟨_, List.getElem?_eq_getElem (by omega)⟩
    obtain ⟨u, eu, ru⟩ := r1.get ha
    obtain ⟨v, ev, rv⟩ := r2.get hb
    have e1 : i1.toArray[j]'(by simpa using h1) = u := by
      rw [List.getElem?_eq_getElem h1] at eu
      simpa using eu
    have e2 : i2.toArray[j]'(by simpa using h2) = v := by
      rw [List.getElem?_eq_getElem h2] at ev
      simpa using ev
    rw [e1, e2]
    exact eqE_at I ru rv (by rw [units_in1]; omega) (he j a b ha hb)
  · rw [decide_eq_false c, Bool.false_and] at h
    exact eq_list_lengthsAt p1.isList p2.isList (by simp; omega) hu0 h
theorem neL_core {pins : List (Addr × Obj)} {σ : St} {H : Hp} {s : Shared} {p q : Addr} {xs ys : List V} {e : Nat → Bool} {Q : Value → Shared → Prop} (I : Inv X pins σ H s) (hu : X.A.units + 64 < cLine) (hp : SqL X.K H p xs) (hq : SqL X.K H q ys)
    (he : ∀ (j : Nat) a b, xs[j]? = some a → ys[j]? = some b → EqE H a b (e j)) (h : Q (.bool (!(decide (xs.length = ys.length) && (List.range xs.length).all e))) s) : wpAny (model X.prog X.w) X.A (compareOp .NotEq (.ref p) (.ref q)) Q X.xe s := by
  obtain ⟨i1, r1, p1, z1⟩ := I.list hp
  obtain ⟨i2, r2, p2, z2⟩ := I.list hq
  have l1 := r1.length
  have l2 := r2.length
  have hu0 : X.A.units < cLine := by omega
  by_cases c : xs.length = ys.length
  · rw [decide_eq_true c, Bool.true_and, l1] at h
    refine RcNeAt.lists (e := e) p1.isList p2.isList (by simp; omega) hu0 (fun j h1 h2 => ?_) _ _ _ _ (by simpa using h)
    simp at h1 h2
    obtain ⟨a, ha⟩ : ∃ a, xs[j]? = some a := ⟨_, List.getElem?_eq_getElem (by omega)⟩
    obtain ⟨b, hb⟩ : ∃ b, ys[j]? = some b := ⟨_, List.getElem?_eq_getElem (by omega)⟩
    obtain ⟨u, eu, ru⟩ := r1.get ha
    obtain ⟨v, ev, rv⟩ := r2.get hb
    have e1 : i1.toArray[j]'(by simpa using h1) = u := by
      rw [List.getElem?_eq_getElem h1] at eu
      simpa using eu
    have e2 : i2.toArray[j]'(by simpa using h2) = v := by
      rw [List.getElem?_eq_getElem h2] at ev
      simpa using ev
    rw [e1, e2]
    exact eqE_at I ru rv (by rw [units_in1]; omega) (he j a b ha hb)
  · rw [decide_eq_false c, Bool.false_and] at h
    exact RcNeAt.lists_lengths p1.isList p2.isList (by simp; omega) hu0 _ _ _ _ h

noncomputable def TupP (H : Hp) (v : V) (p : Int × Int) : Prop := ∃ t, v = .ref t ∧ H t = some (.tup [.int p.1, .int p.2])
noncomputable def RowV (H : Hp) (xs : List V) (r : List (Int × Int)) : Prop := Paired (TupP H) xs r
noncomputable def RowAt (H : Hp) (a : Addr) (r : List (Int × Int)) : Prop := ∃ xs, H a = some (.lst xs) ∧ RowV H xs r
theorem RowV.same {H H' : Hp} (e : Same H H') {xs : List V} {r : List (Int × Int)} (h : RowV H xs r) : RowV H' xs r := Paired.mapP h fun v p ⟨t, e1, e2⟩ => ⟨t, e1, e _ _ e2⟩
theorem RowAt.same {H H' : Hp} (e : Same H H') {a : Addr} {r : List (Int × Int)} (h : RowAt H a r) : RowAt H' a r := let ⟨xs, h1, h2⟩ := h; ⟨xs, e _ _ h1, RowV.same e h2⟩
theorem RowV.length {H : Hp} {xs : List V} {r : List (Int × Int)} (h : RowV H xs r) : xs.length = r.length := Paired.length h
theorem paired_get {α β : Type} {F : α → β → Prop} : ∀ {xs : List α} {ys : List β}, Paired F xs ys → ∀ (i : Nat) {x : α}, xs[i]? = some x → ∃ y, ys[i]? = some y ∧ F x y
  | _, _, .nil, i, x, e => by simp at e
  | _, _, .cons r t, 0, x, e => by simp at e; subst e; exact ⟨_, rfl, r⟩
  | _, _, .cons _ t, i + 1, x, e => by simpa using paired_get t i (by simpa using e)
theorem paired_get' {α β : Type} {F : α → β → Prop} : ∀ {xs : List α} {ys : List β}, Paired F xs ys → ∀ (i : Nat) {y : β}, ys[i]? = some y → ∃ x, xs[i]? = some x ∧ F x y
  | _, _, .nil, i, x, e => by simp at e
  | _, _, .cons r t, 0, x, e => by simp at e; subst e; exact ⟨_, rfl, r⟩
  | _, _, .cons _ t, i + 1, x, e => by simpa using paired_get' t i (by simpa using e)
theorem RowV.get {H : Hp} {xs : List V} {r : List (Int × Int)} (h : RowV H xs r) {i : Nat} (hi : i < r.length) : ∃ t, xs[i]? = some (.ref t) ∧ H t = some (.tup [.int (r.getD i (0, 0)).1, .int (r.getD i (0, 0)).2]) := by
  obtain ⟨x, e, t, e1, e2⟩ := paired_get' h i (List.getElem?_eq_getElem hi)
  subst e1
  refine ⟨t, e, ?_⟩
  rw [List.getD_eq_getElem?_getD, List.getElem?_eq_getElem hi]
  exact e2
theorem row_eqE {H : Hp} {xs ys : List V} {r r' : List (Int × Int)} (h : RowV H xs r) (h' : RowV H ys r') : ∀ (j : Nat) a b, xs[j]? = some a → ys[j]? = some b → EqE H a b (decide (r.getD j (0, 0) = r'.getD j (0, 0))) := by
  intro j a b ha hb
  obtain ⟨p, e1, t, rfl, e2⟩ := paired_get h j ha
  obtain ⟨q, f1, u, rfl, f2⟩ := paired_get h' j hb
  rw [List.getD_eq_getElem?_getD, List.getD_eq_getElem?_getD, e1, f1]
  show EqE H _ _ (decide (p = q))
  have e : decide (p = q) = decide ([p.1, p.2] = [q.1, q.2]) := by
    rw [Bool.eq_iff_iff, decide_eq_true_eq, decide_eq_true_eq]
    constructor
    · rintro rfl; rfl
    · intro z; simp at z; exact Prod.ext z.1 z.2
  rw [e]
  exact EqE.tup (ns := [p.1, p.2]) (ms := [q.1, q.2]) e2 f2
theorem all_eq_list {α : Type} [DecidableEq α] (d : α) (l m : List α) : (decide (l.length = m.length) && (List.range l.length).all fun j => decide (l.getD j d = m.getD j d)) = decide (l = m) := by
  rw [Bool.eq_iff_iff, Bool.and_eq_true, decide_eq_true_eq, decide_eq_true_eq, List.all_eq_true]
  constructor
  · rintro ⟨h2, h1⟩
    refine List.ext_getElem h2 fun i hi hj => ?_
    have := h1 i (List.mem_range.mpr hi)
    rw [decide_eq_true_eq, List.getD_eq_getElem?_getD, List.getD_eq_getElem?_getD, List.getElem?_eq_getElem hi, List.getElem?_eq_getElem hj] at this
    exact this
  · rintro rfl
    exact ⟨rfl, fun j _ => by simp⟩
inductive TwoL (K : PySem.W.Frag) (H : Hp) (p q : Addr) : Bool → Prop where
  | iL {ns ms : List Int} (h : SqL K H p (ns.map V.int)) (h' : SqL K H q (ms.map V.int)) : TwoL K H p q (decide (ns = ms))
  | bL {ns ms : List Bool} (h : SqL K H p (ns.map V.bl)) (h' : SqL K H q (ms.map V.bl)) : TwoL K H p q (decide (ns = ms))
  | rL {xs ys : List V} {r r' : List (Int × Int)} (h : SqL K H p xs) (h1 : RowV H xs r) (h' : SqL K H q ys) (h1' : RowV H ys r') : TwoL K H p q (decide (r = r'))
theorem TwoL.core {H : Hp} {p q : Addr} {b : Bool} (t : TwoL X.K H p q b) : ∃ xs ys e, SqL X.K H p xs ∧ SqL X.K H q ys ∧ (∀ (j : Nat) a b, xs[j]? = some a → ys[j]? = some b → EqE H a b (e j)) ∧ b = (decide (xs.length = ys.length) && (List.range xs.length).all e) := by
  cases t with
  | @iL ns ms h h' =>
    refine ⟨_, _, fun j => decide (ns.getD j 0 = ms.getD j 0), h, h', fun j a b ha hb => ?_, ?_⟩
    · rw [List.getElem?_map] at ha hb
      cases e1 : ns[j]? with
      | none => rw [e1] at ha; cases ha
      | some n =>
        cases e2 : ms[j]? with
        | none => rw [e2] at hb; cases hb
        | some m =>
          rw [e1] at ha; rw [e2] at hb
          cases ha; cases hb
          show EqE H (V.int n) (V.int m) (decide (ns.getD j 0 = ms.getD j 0))
          rw [List.getD_eq_getElem?_getD, List.getD_eq_getElem?_getD, e1, e2]
          exact .int n m
    · rw [List.length_map, List.length_map, all_eq_list]
  | @bL ns ms h h' =>
    refine ⟨_, _, fun j => decide (ns.getD j false = ms.getD j false), h, h', fun j a b ha hb => ?_, ?_⟩
    · rw [List.getElem?_map] at ha hb
      cases e1 : ns[j]? with
      | none => rw [e1] at ha; cases ha
      | some n =>
        cases e2 : ms[j]? with
        | none => rw [e2] at hb; cases hb
        | some m =>
          rw [e1] at ha; rw [e2] at hb
          cases ha; cases hb
          show EqE H (V.bl n) (V.bl m) (decide (ns.getD j false = ms.getD j false))
          rw [List.getD_eq_getElem?_getD, List.getD_eq_getElem?_getD, e1, e2]
          exact .bl n m
    · rw [List.length_map, List.length_map, all_eq_list]
  | @rL xs ys r r' h h1 h' h1' =>
    exact ⟨_, _, _, h, h', row_eqE h1 h1', by rw [h1.length, h1'.length, all_eq_list]⟩
noncomputable def rEqL (K : PySem.W.Frag) : R2 := fun x y H Q => ∃ p q b, x = .ref p ∧ y = .ref q ∧ TwoL K H p q b ∧ Q (.bl b) H
noncomputable def rNeL (K : PySem.W.Frag) : R2 := fun x y H Q => ∃ p q b, x = .ref p ∧ y = .ref q ∧ TwoL K H p q b ∧ Q (.bl (!b)) H
theorem op_eqL (hu : X.A.units + 64 < cLine) : OpR X (compareOp .Eq) (rEqL X.K) := by
  intro pins s σ H x y v u Q I rx ry h
  obtain ⟨p, q, b, rfl, rfl, t, h⟩ := h
  cases rx; cases ry
  obtain ⟨xs, ys, e, hp, hq, he, rfl⟩ := t.core
  exact eqL_core I hu hp hq he ⟨.bl _, H, I, rfl, h⟩
theorem op_neL (hu : X.A.units + 64 < cLine) : OpR X (compareOp .NotEq) (rNeL X.K) := by
  intro pins s σ H x y v u Q I rx ry h
  obtain ⟨p, q, b, rfl, rfl, t, h⟩ := h
  cases rx; cases ry
  obtain ⟨xs, ys, e, hp, hq, he, rfl⟩ := t.core
  exact neL_core I hu hp hq he ⟨.bl _, H, I, rfl, h⟩

noncomputable def Itv (K : PySem.W.Frag) (a : Addr) (xs : List V) : It := ⟨fun i H => SqL K H a xs ∧ i < xs.length, fun i H x H' => H' = H ∧ xs[xs.length - 1 - i]? = some x, fun i _ => xs.length ≤ i⟩
theorem turn_rev {P : Program} {w : World} {K : PySem.W.Frag} {tg : Expr} (a it : Addr) (xs : List V) : Turn P w K tg (Itv K a xs) [it] it (fun i h => i ≤ xs.length ∧ h.IsRevIter it a ((xs.length : Int) - 1 - (i : Int))) where
  mem := by simp
  obj := fun i h st b hb => by
    have e : b = it := by simpa using hb
    subst e
    obtain ⟨_, o, e, c, d⟩ := st
    exact ⟨o, e, fun v z => by rw [d] at z; cases z⟩
  keep := fun i h h' st k => ⟨st.1, st.2.at fun o e => k it (by simp) o e⟩
  item := by
    intro X hP hw hK hc i pins s σ H E I hf st hg
    subst hP hw hK
    obtain ⟨hq, hi⟩ := hg
    obtain ⟨its, rv, p, hz⟩ := I.list hq
    have hl := rv.length
    obtain ⟨x, hx⟩ : ∃ x, xs[xs.length - 1 - i]? = some x := ⟨_, List.getElem?_eq_getElem (by omega)⟩
    obtain ⟨u, hu, ru⟩ := rv.get hx
    obtain ⟨f0, f1, f2, f3, f4, f5⟩ := hf it (by simp)
    have e1 : (xs.length : Int) - 1 - (i : Int) = ((xs.length - 1 - i : Nat) : Int) := by omega
    have st2 := st.2
    rw [e1] at st2
    refine wpAny_pyNext_rev_item st2 p.isList (x := u) (by simpa using hu) fun h' st' sb => ?_
    have e2 : ((xs.length - 1 - i : Nat) : Int) - 1 = (xs.length : Int) - 1 - ((i + 1 : Nat) : Int) := by omega
    rw [e2] at st'
    have I1 : Inv X pins σ H { s with heap := h' } := I.turned (t' := s.toks) (fun b o hb e => (sb.2 b hb).trans e) f0 f1 f3 f4 f5
    obtain ⟨o, e, c, d⟩ := id st'
    exact ⟨u, rfl, go_of (s := { s with heap := h' }) e c d (by decide) ⟨x, H, I1, ru, ⟨rfl, hx⟩, ⟨hi, st'⟩, fun b hb => (hf b hb).1⟩⟩
  done := by
    intro X hP hw hK hc i pins s σ H E I hf st hg
    subst hP hw hK
    have hg : xs.length ≤ i := hg
    obtain ⟨f0, f1, f2, f3, f4, f5⟩ := hf it (by simp)
    have e1 : (xs.length : Int) - 1 - (i : Int) = -1 := by have := st.1; omega
    have st2 := st.2
    rw [e1] at st2
    exact wpAny_pyNext_rev_end (I.ok.hd hc) st2 fun h' eb => ⟨rfl, I.turned (t' := s.toks) (fun b o hb e => eb b o hb e) f0 f1 f3 f4 f5⟩
  self := fun _ _ _ _ _ st h => wpAny_pyIter_revIter st.2 h
noncomputable def iRev (K : PySem.W.Frag) (ta : TA) : TI := fun σ H R => ta σ H fun vs H1 => ∃ a xs, vs = [.ref a] ∧ SqL K H1 a xs ∧ R (Itv K a xs) H1
theorem pi_rev {tg a : Expr} {ta : TA} {p pos : Pos} (hg : Gl X "reversed") (hm : X.mg "reversed" = none) (ha : PA X [a] ta) (hs : starEach [a] X.env = [(false, eval a X.env)] := by rfl) : PI X tg (.Call (.Name "reversed" p) [a] [] pos) (iRev X.K ta) := by
  intro pins s σ H R I h
  refine Call_ (ld_blt I hg hm boot_reversed (PyProof.Rows.callWith_type1 (thn (ha pos pins s σ H _ I h) fun us s1 ⟨vs, H1, I1, r1, q1⟩ => ?_) hs rfl))
  obtain ⟨a, xs, e, hq, q⟩ := q1
  subst e
  obtain ⟨u, rfl, ru⟩ := vals1 r1
  cases ru
  obtain ⟨its, rv, pl, hz⟩ := I1.list hq
  have hl := rv.length
  refine call_reversed_list pl.isList ?_
  have I2 : Inv X pins σ H1 { s1 with heap := s1.heap.push (revObj a ((its.toArray.size : Int) - 1)) } := I1.kept (t' := s1.toks) fun b o e => Heap.get?_push_of_some _ e
  have hit : Heap.IsRevIter (s1.heap.push (revObj a ((its.toArray.size : Int) - 1))) s1.heap.objs.size a ((xs.length : Int) - 1 - ((0 : Nat) : Int)) := by
    refine ⟨_, Heap.get?_push_size _ rfl, rfl, ?_⟩
    show Data.fields #[.ref a, rawInt ((its.toArray.size : Int) - 1)] = _
    rw [List.size_toArray, ← hl]
    simp
  refine wpAny_pyIter_revIter hit ?_
  refine ⟨s1.heap.objs.size, [s1.heap.objs.size], _, _, H1, rfl, I2, turn_rev a s1.heap.objs.size xs, ⟨Nat.zero_le _, hit⟩, fun b hb => ?_, q⟩
  have e : b = s1.heap.objs.size := by simpa using hb
  subst e
  exact I1.fpOk (Nat.le_refl _) (I1.hok.fresh (Nat.le_refl _))

noncomputable def pickV {α : Type} (xs : List α) (lo hi st : Option Int) : List α := (sliceRange (sliceBounds lo hi st xs.length).1 (sliceBounds lo hi st xs.length).2.1 (sliceBounds lo hi st xs.length).2.2).filterMap (xs[·]?)
theorem Vals.pick {xs : List V} {us : List Value} (r : Vals xs us) : ∀ ks : List Nat, Vals (ks.filterMap (xs[·]?)) (ks.filterMap (us[·]?))
  | [] => .nil
  | k :: ks => by
    cases e : xs[k]? with
    | none =>
      rw [List.filterMap_cons_none e, List.filterMap_cons_none (r.none_of e)]
      exact Vals.pick r ks
    | some x =>
      obtain ⟨u, eu, ru⟩ := r.get e
      rw [List.filterMap_cons_some e, List.filterMap_cons_some eu]
      exact .cons ru (Vals.pick r ks)
theorem pick_arr (its : List Value) (lo hi st : Option Int) : slicePick its.toArray lo hi st = (pickV its lo hi st).toArray := by
  unfold slicePick pickV
  simp
noncomputable def tSlS (K : PySem.W.Frag) (te : TE) (tl th : TO) (ts : TE) : TE := fun σ H Q => te σ H fun x H1 => tl σ H1 fun l H2 => th σ H2 fun u H3 => ts σ H3 fun z H4 => ∃ a xs k, x = .ref a ∧ z = .int k ∧ k ≠ 0 ∧ SqL K H4 a xs ∧ (pickV xs l u (some k)).length ≤ sizeLine ∧
  ∀ p, H4 p = none → Q (.ref p) (upd H4 p (.lst (pickV xs l u (some k))))
theorem pe_sliceS {e st : Expr} {te ts : TE} {lo hi : Option Expr} {tl th : TO} {pos p2 : Pos} (he : PE X e te) (hl : PO X lo tl) (hu : PO X hi th) (hs : PE X st ts) : PE X (.Subscript e (.Slice lo hi (some st) p2) pos) (tSlS X.K te tl th ts) := by
  intro pins s σ H Q I h
  refine Subscript_ (thn (he pins s σ H _ I h) fun v s1 ⟨x, H1, I1, r1, q1⟩ => ?_)
  refine wpAny_Slice (thn (hl pins s1 σ H1 _ I1 q1) fun vl s2 ⟨l, H2, I2, pl, q2⟩ => thn (hu pins s2 σ H2 _ I2 q2) fun vu s3 ⟨u, H3, I3, pu, q3⟩ => ?_)
  rw [evalPart_some]
  refine thn (hs pins s3 σ H3 _ I3 q3) fun vk s4 ⟨z, H4, I4, r4, q4⟩ => ?_
  obtain ⟨a, xs, k, rfl, rfl, hk, hq, hz, q⟩ := q4
  cases r1
  obtain ⟨tk, rfl⟩ := r4
  have I5 : Inv X pins σ H4 { s4 with heap := s4.heap.push { cls := .type "slice", data := .fields #[vl, vu, .int k tk] } } := I4.kept (t' := s4.toks) fun b ob q => Heap.get?_push_of_some _ q
  obtain ⟨its, r, ht, hz'⟩ := I5.list hq
  have hlen := r.length
  show wpAny (model X.prog X.w) X.A (subscriptTail e (.Slice lo hi (some st) p2) (.ref a) (.ref s4.heap.objs.size)) (EP X pins σ Q) X.xe { s4 with heap := s4.heap.push { cls := .type "slice", data := .fields #[vl, vu, .int k tk] } }
  refine tail_any (ops := [.ref a, .ref s4.heap.objs.size]) ht.isList.typeIs slot_list_getitem.lookup (wpAny_getItem_list_slice ht.isList (Heap.IsSliceOf.new ..) pl pu (.int k tk) (by simpa using hk) ?_ (by rw [List.size_toArray]; omega)) (by with_unfolding_all rfl)
  rw [pick_arr]
  have rp : Vals (pickV xs l u (some k)) (pickV its l u (some k)) := by
    unfold pickV
    rw [hlen]
    exact r.pick _
  exact ⟨.ref (s4.heap.push { cls := .type "slice", data := .fields #[vl, vu, .int k tk] }).objs.size, _, I5.lnew (t' := s4.toks) rp hz, rfl, q _ (I5.hok.fresh (Nat.le_refl _))⟩
theorem pick_rev {α : Type} (xs : List α) : pickV xs none none (some (-1)) = xs.reverse := by
  unfold pickV
  rw [PySem.W.krv_bounds]
  show (sliceRange ((xs.length : Int) - 1) (-1) (-1)).filterMap (xs[·]?) = _
  rw [PySem.W.krv_sliceRange, PySem.W.krv_range, List.filterMap_reverse]
  congr 1
  have := PySem.W.krv_all xs.toArray
  simpa using this
end
end L2

set_option genSizeOf false
set_option genInjectivity false
namespace L2
open PySem PySem.Spec PyProof.Rows
section
variable {X : Cx}
noncomputable def Dfn (P : Program) (w : World) (K : PySem.W.Frag) (mg : Str → Option Value) (base : Heap) (x : Str) (k : Nat) (ps : List Str) (sp : Sp) : Prop :=
  ∃ (f : Addr) (fd : FuncData), mg x = some (.ref f) ∧ PySem.W.keepIn K (.ref f) = true ∧ Binds K fd ps [] ∧ FnOk P w K mg base CX0 k f fd ps sp
theorem pe_callD {k : Nat} {x : Str} {ps : List Str} {sp : Sp} {p pos : Pos} {e : Expr} {es : List Expr} {t : TA} (D : Dfn X.prog X.w X.K X.mg X.base x k ps sp) (hr : Room k X.A) (hg : Gl X x) (ha : PA X (e :: es) t)
    (hdb : (x == ("__debug__" : Str)) = false := by decide +kernel) (he : starEach (e :: es) X.env = (false, eval e X.env) :: starEach es X.env := by rfl) (hpl : (backTo pos (starEach es X.env)).any (·.1) = false := by rfl) :
    PE X (.Call (.Name x p) (e :: es) [] pos) (tCall sp [] E0 t) := by
  obtain ⟨f, fd, hm, hk, hb, F⟩ := D
  exact pe_call F hr hg hm hk hb .nil pass0 ha hdb he hpl

theorem pg_tupK {es : List Expr} {k n : Nat} {t : TGs} {pos : Pos} (K : PySem.W.Frag) (hK : X.K = K) (hc : X.calm = true) (h : PGs X es t)
    (hn : (assignEach es X.env).length = n := by rfl) (hst : (assignEach es X.env).findIdx? (·.1) = none := by rfl) : PG X (.Tuple es k pos) (gTup K n t) := by
  subst hK
  exact pg_tup hc h hn hst
theorem ix_listK (K : PySem.W.Frag) (hK : X.K = K) : IxR X (rIxL K) := by subst hK; exact ix_list
theorem ix_tupK (K : PySem.W.Frag) (hK : X.K = K) : IxR X (rIxT K) := by subst hK; exact ix_tup
theorem sl_listK (K : PySem.W.Frag) (hK : X.K = K) : SlR X (rSlL K) := by subst hK; exact sl_list
theorem call_len_seqK (K : PySem.W.Frag) (hK : X.K = K) : CallR X (.builtin "len") (fun xs H Q => ∃ p ys, xs = [.ref p] ∧ (SqL K H p ys ∨ SqT K H p ys) ∧ Q (.int ys.length) H) := by subst hK; exact call_len_seq
theorem call_list_ofK (K : PySem.W.Frag) (hK : X.K = K) : CallR X (.type "list") (fun xs H Q => ∃ p ys, xs = [.ref p] ∧ (SqL K H p ys ∨ SqT K H p ys) ∧ ∀ l, H l = none → Q (.ref l) (upd H l (.lst ys))) := by subst hK; exact call_list_of
theorem call_isiK (K : PySem.W.Frag) (hK : X.K = K) : CallR X (.builtin "isinstance") (fun xs H Q => ∃ x T t b, xs = [x, .ty T] ∧ TyOf K H x t ∧ PySem.W.kitOne K t (.type T) = some b ∧ Q (.bl b) H) := by subst hK; exact call_isi
theorem call_isiCK (K : PySem.W.Frag) (hK : X.K = K) : CallR X (.builtin "isinstance") (fun xs H Q => ∃ x C t b, xs = [x, .ref C] ∧ TyOf K H x t ∧ PySem.W.kitOne K t (.ref C) = some b ∧ Q (.bl b) H) := by subst hK; exact call_isiC

noncomputable def compB (outer inner : Scope) (N : List Str) (cap : List (Nat × Str)) (own : List Str) : Bool :=
  (inner.kind == .function) && inner.names.all (fun y => y.2 != .cell) && inner.names.all (fun y => y.2 != .local || inner.names.lookup y.1 == some .local)
    && inner.names.all (fun y => y.2 != .free || (outer.names.lookup y.1 == some .cell && inner.names.lookup y.1 == some .free))
    && cap.all (fun p => N[p.1]? == some p.2) && own.all (fun x => inner.names.lookup x != some .free) && cap.all (fun p => inner.names.lookup p.2 == some .free)
theorem CompOk.of {outer inner : Scope} {N : List Str} {cap : List (Nat × Str)} {own : List Str} (he : X.env.scope = outer) (hN : X.N = N) (h : compB outer inner N cap own = true) : CompOk X inner cap own := by
  unfold compB at h
  simp only [Bool.and_eq_true] at h
  obtain ⟨⟨⟨⟨⟨⟨h1, h2⟩, h3⟩, h4⟩, h5⟩, h6⟩, h7⟩ := h
  refine ⟨by simpa using h1, fun y hy z => ?_, fun y hy z => ?_, fun y hy z => ?_, fun p hp => ?_, fun x hx z => ?_, fun p hp => ?_⟩
  · have := List.all_eq_true.mp h2 y hy
    rw [z] at this
    exact absurd this (by decide)
  · have := List.all_eq_true.mp h3 y hy
    rw [z] at this
    simpa using this
  · have := List.all_eq_true.mp h4 y hy
    rw [z] at this
    rw [he]
    simpa using this
  · have := List.all_eq_true.mp h5 p hp
    rw [hN]
    simpa using this
  · have := List.all_eq_true.mp h6 x hx
    rw [z] at this
    simp at this
  · have := List.all_eq_true.mp h7 p hp
    simpa using this
end
structure Blt (mg : Str → Option Value) : Prop where
  b_len : mg "len" = none
  b_isinstance : mg "isinstance" = none
  b_int : mg "int" = none
  b_bool : mg "bool" = none
  b_list : mg "list" = none
  b_tuple : mg "tuple" = none
  b_range : mg "range" = none
  b_reversed : mg "reversed" = none
  b_max : mg "max" = none
  b_abs : mg "abs" = none
  b_sum : mg "sum" = none
  b_all : mg "all" = none
  b_sorted : mg "sorted" = none
  b_set : mg "set" = none
  b_any : mg "any" = none
  b_min : mg "min" = none
  b_zip : mg "zip" = none
  b_enumerate : mg "enumerate" = none
  b_str : mg "str" = none
theorem Same.upd {H : Hp} {a : Addr} {o : HO} (h : H a = none) : Same H (upd H a o) := fun b u e => by rw [upd_ne (ne_of_none e h)]; exact e
theorem Same.upd' {H H' : Hp} {a : Addr} {o : HO} (s : Same H H') (h : H a = none) : Same H (L2.upd H' a o) := fun b u e => by rw [upd_ne (ne_of_none e h)]; exact s b u e
theorem Same.none {H H' : Hp} (s : Same H H') {a : Addr} (h : H' a = Option.none) : H a = Option.none := s.free h
end L2

set_option genSizeOf false
set_option genInjectivity false
namespace L2
open PySem
theorem comp_list {K : PySem.W.Frag} {a : Addr} {xs : List V} {cap : List (Nat × Str)} {own : Nat} {g : TG} {tc : TT} {te : TE} {σ : St} {H : Hp} {Q : Addr → Hp → Prop} (Pv : Addr → Nat → List V → Hp → Prop)
    (h0 : ∀ D, H D = none → Pv D 0 [] (upd H D (.lst []))) (kp : ∀ D i ys H', H D = none → Pv D i ys H' → SqL K H' a xs ∧ H' D = some (.lst ys))
    (turn : ∀ D i x ys H', H D = none → xs[i]? = some x → Pv D i ys H' → g x (blk cap own σ) H' fun σ2 H2 => (σ2.take cap.length = capσ cap σ ∧ σ2.length = cap.length + own) ∧ tc σ2 H2 fun b H3 =>
      if b = true then te σ2 H3 fun v H4 => H4 D = some (.lst ys) ∧ ys.length < sizeLine ∧ ∃ m', m' < xs.length - i ∧ (m' = xs.length - (i + 1) ∧ i + 1 ≤ xs.length ∧ Pv D (i + 1) (ys ++ [v]) (upd H4 D (.lst (ys ++ [v]))))
      else ∃ m', m' < xs.length - i ∧ (m' = xs.length - (i + 1) ∧ i + 1 ≤ xs.length ∧ Pv D (i + 1) ys H3))
    (done : ∀ D ys H', H D = none → Pv D xs.length ys H' → Q D H') :
    ∀ D, H D = none → ∃ W : Nat → Nat → List V → Hp → Prop, (∃ m, W 0 m [] (upd H D (.lst []))) ∧ ∀ i m ys H, W i m ys H → H D = some (.lst ys) ∧
      (((Itl K a).stop i H ∧ Q D H) ∨ ((Itl K a).go i H ∧ ∀ x H', (Itl K a).yld i H x H' → g x (blk cap own σ) H' fun σ2 H2 =>
        (σ2.take cap.length = capσ cap σ ∧ σ2.length = cap.length + own) ∧ tc σ2 H2 fun b H3 =>
          if b = true then te σ2 H3 fun v H4 => H4 D = some (.lst ys) ∧ ys.length < sizeLine ∧ ∃ m', m' < m ∧ W (i + 1) m' (ys ++ [v]) (upd H4 D (.lst (ys ++ [v])))
          else ∃ m', m' < m ∧ W (i + 1) m' ys H3)) := by
  intro D hD
  refine ⟨fun i m ys H' => m = xs.length - i ∧ i ≤ xs.length ∧ Pv D i ys H', ⟨xs.length, by simp, Nat.zero_le _, h0 D hD⟩, ?_⟩
  rintro i m ys H' ⟨rfl, hi, p⟩
  obtain ⟨q, hd⟩ := kp D i ys H' hD p
  refine ⟨hd, ?_⟩
  by_cases hlt : i < xs.length
  · refine .inr ⟨⟨xs, xs[i], q, by simp [hlt]⟩, fun x H2 y => ?_⟩
    obtain ⟨e, y⟩ := y
    subst e
    exact turn D i x ys H2 hD (y xs q) p
  · have e : i = xs.length := by omega
    subst e
    exact .inl ⟨⟨xs, q, Nat.le_refl _⟩, done D ys H' hD p⟩
end L2

namespace L2
open PySem PyProof.Rows
section
variable {X : Cx}
theorem star_bin {l r : Expr} {o : Operator} {p : Pos} {es : List Expr} {env : Env} : starEach (.BinOp l o r p :: es) env = (false, eval (.BinOp l o r p) env) :: starEach es env := rfl
theorem star_tup {l : List Expr} {k : Nat} {p : Pos} {es : List Expr} {env : Env} : starEach (.Tuple l k p :: es) env = (false, eval (.Tuple l k p) env) :: starEach es env := rfl
theorem star_con {v : Const} {k : Nat} {p : Pos} {es : List Expr} {env : Env} : starEach (.Constant v k p :: es) env = (false, eval (.Constant v k p) env) :: starEach es env := rfl
theorem pe_pairC {i j : Int} {k1 k2 k : Nat} {p1 p2 p : Pos} : PE X (.Tuple [.Constant (.int i) k1 p1, .Constant (.int j) k2 p2] k p) (tTup (tCons (tC (.int i)) (tCons (tC (.int j)) tNil))) := pe_tup (pa_cons pe_int (pa_cons pe_int pa_nil star_con) star_con)
theorem pe_pairP {i j i' j' : Int} {k1 k2 k3 k4 k : Nat} {p1 p2 p3 p4 p5 p6 p : Pos} : PE X (.Tuple [.BinOp (.Constant (.int i) k1 p1) .Pow (.Constant (.int j) k2 p2) p3, .BinOp (.Constant (.int i') k3 p4) .Pow (.Constant (.int j') k4 p5) p6] k p)
    (tTup (tCons (tOp (rI CPow fun i j => .int (i ^ j.toNat)) (tC (.int i)) (tC (.int j))) (tCons (tOp (rI CPow fun i j => .int (i ^ j.toNat)) (tC (.int i')) (tC (.int j'))) tNil))) := pe_tup (pa_cons (pe_op op_pow pe_int pe_int) (pa_cons (pe_op op_pow pe_int pe_int) pa_nil star_bin) star_bin)
theorem pe_tup4 {a b c d : List Expr} {k1 k2 k3 k4 k : Nat} {p1 p2 p3 p4 p : Pos} {ta tb tc td : TE} (ha : PE X (.Tuple a k1 p1) ta) (hb : PE X (.Tuple b k2 p2) tb) (hc : PE X (.Tuple c k3 p3) tc) (hd : PE X (.Tuple d k4 p4) td) :
    PE X (.Tuple [.Tuple a k1 p1, .Tuple b k2 p2, .Tuple c k3 p3, .Tuple d k4 p4] k p) (tTup (tCons ta (tCons tb (tCons tc (tCons td tNil))))) := pe_tup (pa_cons ha (pa_cons hb (pa_cons hc (pa_cons hd pa_nil star_tup) star_tup) star_tup) star_tup)
end
end L2

set_option genSizeOf false
set_option genInjectivity false
namespace L2
open PySem PySem.Spec PyProof.Rows
section
variable {X : Cx}
theorem op_isB : OpR X (compareOp .Is) (fun x y H Q => ∃ a b, x = .bl a ∧ y = .bl b ∧ Q (.bl (decide (a = b))) H) := by
  intro pins s σ H x y v u Q I rx ry h
  obtain ⟨a, b, rfl, rfl, q⟩ := h
  cases rx
  cases ry
  refine wpAny_is_plain (by cases a <;> cases b <;> rfl) (fin_bl I q ?_)
  cases a <;> cases b <;> rfl
theorem op_isnotB : OpR X (compareOp .IsNot) (fun x y H Q => ∃ a b, x = .bl a ∧ y = .bl b ∧ Q (.bl (!decide (a = b))) H) := by
  intro pins s σ H x y v u Q I rx ry h
  obtain ⟨a, b, rfl, rfl, q⟩ := h
  cases rx
  cases ry
  refine wpAny_isNot_plain (by cases a <;> cases b <;> rfl) (fin_bl I q ?_)
  cases a <;> cases b <;> rfl
noncomputable def Mke (P : Program) (w : World) (K : PySem.W.Frag) (mg : Str → Option Value) (base : Heap) (x : Str) (C : Addr) (k : Nat) (ps : List Str) (sp : Sp) : Prop :=
  ∃ (f : Addr) (fd : FuncData), Mk K C f ∧ mg x = some (.ref C) ∧ Binds K fd ps [] ∧ FnOk P w K mg base CX0 k f fd ps sp
noncomputable def Mth (P : Program) (w : World) (K : PySem.W.Frag) (mg : Str → Option Value) (base : Heap) (C : Addr) (m : Str) (k : Nat) (ps : List Str) (sp : Sp) : Prop :=
  ∃ (f : Addr) (fd : FuncData), Cls K C ∧ Meth K C m f ∧ Binds K fd ps [] ∧ FnOk P w K mg base CX0 k f fd ps sp
theorem pe_makeD {k : Nat} {x : Str} {C : Addr} {ps : List Str} {sp : Sp} {p pos : Pos} {e : Expr} {es : List Expr} {t : TA} (D : Mke X.prog X.w X.K X.mg X.base x C k ps sp) (hr : Room (k + 1) X.A) (hg : Gl X x) (ha : PA X (e :: es) t)
    (hdb : (x == ("__debug__" : Str)) = false := by decide +kernel) (he : starEach (e :: es) X.env = (false, eval e X.env) :: starEach es X.env := by rfl) (hpl : (backTo pos (starEach es X.env)).any (·.1) = false := by rfl) :
    PE X (.Call (.Name x p) (e :: es) [] pos) (tMake C sp [] E0 t) := by
  obtain ⟨f, fd, M, hm, hb, F⟩ := D
  exact pe_make M F hr hg hm hb .nil pass0 ha hdb he hpl
theorem pe_methD {pl : Sem Bool} {k : Nat} {m : Str} {C : Addr} {ps : List Str} {sp : Sp} {pos apos : Pos} {e o : Expr} {es : List Expr} {t : TA} {ta : TE} (D : Mth X.prog X.w X.K X.mg X.base C m k ps sp) (hr : Room k X.A) (he : PE X o ta) (ha : PA X (e :: es) t)
    (hst : starEach (e :: es) X.env = (false, eval e X.env) :: starEach es X.env := by rfl) (hpl : (backTo pos (starEach es X.env)).any (·.1) = false := by rfl)
    (ht : eval (.Call (.Attribute o m apos) (e :: es) [] pos) X.env = (do
      let ov ← eval o X.env
      standAt apos.atName
      let (f, first) ← holding [ov] (getMethod ov m pl)
      callWith pos f first (backTo pos (starEach (e :: es) X.env)) (backToKw pos (keywordEach [] X.env))) := by rfl) :
    PE X (.Call (.Attribute o m apos) (e :: es) [] pos) (tMeth C m sp [] E0 ta t) := by
  obtain ⟨f, fd, c, hm, hb, F⟩ := D
  exact pe_meth (pl := pl) he c hm F hr hb .nil pass0 ha hst hpl ht
noncomputable def FldAt (K : PySem.W.Frag) (σ : St) (i : Nat) (H : Hp) (f : Str) (v : V) : Prop := ∃ a C dx fs, σ[i]? = some (some (.ref a)) ∧ H a = some (.ins C dx fs) ∧ Cls K C ∧ NoAttr K C f ∧ fs.lookup f = some v
theorem pe_fldv {x f : Str} {i : Nat} {p pos : Pos} (h : PE X (.Name x p) (tVar i)) (hb : attributeBase (.Name x p) f X.env (eval (.Name x p) X.env) = eval (.Name x p) X.env) : PE X (.Attribute (.Name x p) f pos) (fun σ H Q => ∃ v, FldAt X.K σ i H f v ∧ Q v H) := by
  intro pins s σ H Q I hq
  obtain ⟨v, ⟨a, C, dx, fs, h1, h2, h3, h4, h5⟩, q⟩ := hq
  exact pe_fld h hb pins s σ H Q I ⟨_, h1, a, C, dx, fs, v, rfl, h2, h3, h4, h5, q⟩
theorem pe_fldvK {x f : Str} {i : Nat} {p pos : Pos} (K : PySem.W.Frag) (hK : X.K = K) (h : PE X (.Name x p) (tVar i)) (hb : attributeBase (.Name x p) f X.env (eval (.Name x p) X.env) = eval (.Name x p) X.env) : PE X (.Attribute (.Name x p) f pos) (fun σ H Q => ∃ v, FldAt K σ i H f v ∧ Q v H) := by
  subst hK
  exact pe_fldv h hb
theorem rd_rix {K : PySem.W.Frag} {i j : Nat} {c z : Int} {a t : Addr} {xs ys : List V} {v : V} {σ : St} {H : Hp} {Q : VK} (e1 : σ[i]? = some (some (.ref a))) (e2 : σ[j]? = some (some (.int z))) (h1 : SqL K H a xs) (h2 : atI xs z = some (.ref t)) (h3 : SqT K H t ys) (h4 : atI ys c = some v) (q : Q v H) :
    tOp (rIxT K) (tOp (rIxL K) (tVar i) (tVar j)) (tC (.int c)) σ H Q := ⟨_, e1, _, e2, a, xs, z, _, rfl, rfl, h1, h2, t, ys, c, v, rfl, rfl, h3, h4, q⟩
theorem rd_tix {K : PySem.W.Frag} {i : Nat} {c : Int} {t : Addr} {ys : List V} {v : V} {σ : St} {H : Hp} {Q : VK} (e1 : σ[i]? = some (some (.ref t))) (h3 : SqT K H t ys) (h4 : atI ys c = some v) (q : Q v H) :
    tOp (rIxT K) (tVar i) (tC (.int c)) σ H Q := ⟨_, e1, t, ys, c, v, rfl, rfl, h3, h4, q⟩
theorem rd_len {K : PySem.W.Frag} {i : Nat} {a : Addr} {xs : List V} {σ : St} {H : Hp} {Q : VK} (e1 : σ[i]? = some (some (.ref a))) (h1 : SqL K H a xs) (q : Q (.int xs.length) H) :
    tCB (fun us H Q => ∃ p ys, us = [.ref p] ∧ (SqL K H p ys ∨ SqT K H p ys) ∧ Q (.int ys.length) H) (tCons (tVar i) tNil) σ H Q := ⟨_, e1, a, xs, rfl, .inl h1, q⟩
theorem rd_op {g : Int → Int → V} {i j : Int} {H : Hp} {Q : VK} (q : Q (g i j) H) : rI0 g (.int i) (.int j) H Q := ⟨i, j, rfl, rfl, q⟩
theorem rd_opC {C : Int → Int → Prop} {g : Int → Int → V} {i j : Int} {H : Hp} {Q : VK} (c : C i j) (q : Q (g i j) H) : rI C g (.int i) (.int j) H Q := ⟨i, j, rfl, rfl, c, q⟩
theorem rd_tup2 {K : PySem.W.Frag} {i j : Nat} {t : Addr} {x y : V} {σ : St} {H : Hp} {R : St → Hp → Prop} (h : SqT K H t [x, y]) (q : R ((σ.set i (some x)).set j (some y)) H) : gTup K 2 (gCons (gName i) (gCons (gName j) gNil)) (.ref t) σ H R :=
  ⟨t, [x, y], rfl, h, rfl, _, _, rfl, _, _, rfl, rfl, q⟩
theorem rd_isiv {K : PySem.W.Frag} {i : Nat} {C : Addr} {x : V} {t : Value} {b : Bool} {σ : St} {H : Hp} {Q : VK} (e1 : σ[i]? = some (some x)) (ty : TyOf K H x t) (k : PySem.W.kitOne K t (.ref C) = some b) (q : Q (.bl b) H) :
    tCB (fun xs H Q => ∃ x C t b, xs = [x, .ref C] ∧ TyOf K H x t ∧ PySem.W.kitOne K t (.ref C) = some b ∧ Q (.bl b) H) (tCons (tVar i) (tCons (tC (.ref C)) tNil)) σ H Q := ⟨_, e1, x, C, t, b, rfl, ty, k, q⟩
theorem rd_methv {sp : Sp} {E : XK} {t : TA} {i : Nat} {C a dx : Addr} {fs : List (Str × V)} {m : Str} {σ : St} {H : Hp} {Q : VK} (e1 : σ[i]? = some (some (.ref a))) (h : H a = some (.ins C dx fs)) (n : fs.lookup m = none) (q : t σ H fun vs H2 => sp (.ref a :: (vs ++ [])) H2 Q E) :
    tMeth C m sp [] E (tVar i) t σ H Q := ⟨_, e1, a, dx, fs, rfl, h, n, q⟩
theorem ps_cut {st : Stmt} {t : TS} (h : PS X st t) : PS X st (fun D σ H => ∃ R : St → Hp → Prop, t { D with nx := R } σ H ∧ ∀ σ' H', R σ' H' → D.nx σ' H') := by
  intro pins s σ H D I hq
  obtain ⟨R, h1, h2⟩ := hq
  refine thn (h pins s σ H _ I h1) fun f s' q => ?_
  cases f with
  | next =>
    obtain ⟨σ', H', I', r⟩ := q
    exact ⟨σ', H', I', h2 σ' H' r⟩
  | brk => exact q
  | cont => exact q
  | ret v => exact q
end
section
variable {X : Cx}
end
theorem comp_row {K : PySem.W.Frag} {a : Addr} {xs : List V} {r : List (Int × Int)} {cap : List (Nat × Str)} {own : Nat} {g : TG} {tc : TT} {te : TE} {σ : St} {H : Hp} {Q : Addr → Hp → Prop} (f : Int × Int → Int × Int)
    (ha : H a = some (.lst xs)) (hx : RowV H xs r) (hle : r.length ≤ 1000)
    (turn : ∀ (t : Addr) (p : Int × Int) (H' : Hp) (Q1 : V → Hp → Prop) (Q2 : Hp → Prop), Same H H' → H' t = some (.tup [.int p.1, .int p.2]) → (∀ u, H' u = none → Q1 (.ref u) (upd H' u (.tup [.int (f p).1, .int (f p).2]))) →
      g (.ref t) (blk cap own σ) H' fun σ2 H2 => (σ2.take cap.length = capσ cap σ ∧ σ2.length = cap.length + own) ∧ tc σ2 H2 fun b H3 => if b = true then te σ2 H3 Q1 else Q2 H3)
    (done : ∀ D H', H D = none → Same H H' → RowAt H' D (r.map f) → Q D H') :
    ∀ D, H D = none → ∃ W : Nat → Nat → List V → Hp → Prop, (∃ m, W 0 m [] (upd H D (.lst []))) ∧ ∀ i m ys H, W i m ys H → H D = some (.lst ys) ∧
      (((Itl K a).stop i H ∧ Q D H) ∨ ((Itl K a).go i H ∧ ∀ x H', (Itl K a).yld i H x H' → g x (blk cap own σ) H' fun σ2 H2 =>
        (σ2.take cap.length = capσ cap σ ∧ σ2.length = cap.length + own) ∧ tc σ2 H2 fun b H3 =>
          if b = true then te σ2 H3 fun v H4 => H4 D = some (.lst ys) ∧ ys.length < sizeLine ∧ ∃ m', m' < m ∧ W (i + 1) m' (ys ++ [v]) (upd H4 D (.lst (ys ++ [v])))
          else ∃ m', m' < m ∧ W (i + 1) m' ys H3)) := by
  have hlen := hx.length
  refine comp_list (K := K) (a := a) (xs := xs) (fun D i ys H2 => Same H H2 ∧ H2 D = some (.lst ys) ∧ RowV H2 ys ((r.map f).take i)) ?_ ?_ ?_ ?_
  · intro D hD
    exact ⟨Same.upd hD, upd_same, .nil⟩
  · rintro D i ys H5 hD ⟨s5, hd5, _⟩
    exact ⟨s5.seq (SqL.of ha), hd5⟩
  · rintro D i x ys H5 hD hxi ⟨s5, hd5, hy⟩
    have hil : i < xs.length := (List.getElem?_eq_some_iff.mp hxi).1
    obtain ⟨p, ep, t, rfl, et⟩ := paired_get hx _ hxi
    have yl : ys.length = i := by rw [hy.length, List.length_take, List.length_map]; omega
    refine turn t p H5 _ _ s5 (s5 _ _ et) fun u hu => ?_
    have nD : D ≠ u := ne_of_none hd5 hu
    refine ⟨by rw [upd_ne nD]; exact hd5, small1000 (by omega), _, (by omega : xs.length - (i + 1) < _), rfl, hil, (s5.trans (Same.upd hu)).upd' hD, upd_same, ?_⟩
    have e3 : (r.map f).take (i + 1) = (r.map f).take i ++ [f p] := by
      rw [List.take_add_one, List.getElem?_map, ep]
      rfl
    rw [e3]
    refine Paired.snoc ?_ ⟨u, rfl, by rw [upd_ne nD.symm, upd_same]⟩
    refine Paired.mapP hy fun v z ⟨t', z1, z2⟩ => ⟨t', z1, ?_⟩
    have m1 : t' ≠ D := fun e => by rw [e, hd5] at z2; cases z2
    rw [upd_ne m1, upd_ne (ne_of_none z2 hu)]
    exact z2
  · rintro D ys H5 hD ⟨s5, hd5, hy⟩
    rw [hlen, List.take_of_length_le (by rw [List.length_map]; exact Nat.le_refl _)] at hy
    exact done D H5 hD s5 ⟨ys, hd5, hy⟩
end L2

set_option genSizeOf false
set_option genInjectivity false
namespace L2
open PySem PySem.Spec PyProof.Rows
section
variable {X : Cx} {pins : List (Addr × Obj)} {σ : St} {H : Hp} {s : Shared} {h' : Heap}
theorem Inv.turnedNew {t' : Nat} {ch : List Addr} {a : Addr} {o : HO} (I : Inv X pins σ H s) (hf : ∀ b ∈ ch, FpOk X pins H b) (k : ∀ b u, b ∉ ch → s.heap.get? b = some u → h'.get? b = some u) (hp : s.heap.objs.size ≤ a)
    (new : ObjOk X.prog X.w (upd H a o) h' a o) : Inv X pins σ (upd H a o) { s with heap := h', toks := t' } := by
  have hn := I.hok.fresh hp
  have nch : ∀ b u, H b = some u → b ∉ ch := fun b u e z => by rw [(hf b z).1] at e; cases e
  refine I.step (g' := s.gens) (d' := s.drawn) (ch := ch) (fun b hb => ?_) (fun b o _ _ hc e _ => k b o hc e) (fun b o _ _ hc e _ => ⟨o.slots, k b o hc e⟩) (fun b o _ e n => ?_)
    (fun b o hc e => ⟨o, k b o hc e⟩) (fun b xs e => ?_) (fun b o u e => ?_) (fun b ps e => ⟨#[], ?_⟩) (fun m hm => ?_) (fun b u e => ?_) I.bare
  · obtain ⟨_, f1, _, f3, f4, f5⟩ := hf b hb
    exact ⟨f3, f1, f4, f5⟩
  · rw [upd_ne (fun z => ?_)]
    · exact n
    · rw [z] at e
      exact absurd (Nat.lt_of_lt_of_le (Heap.lt_size e) hp) (Nat.lt_irrefl _)
  · rw [upd_ne (ne_of_none e hn)]; exact e
  · rw [upd_ne (ne_of_none e hn)]; exact e
  · rw [upd_ne (ne_of_none e hn), e]; simp
  · obtain ⟨o, es, ep, ho, r⟩ := hm
    refine ⟨o, es, ep, k _ o (fun z => (hf _ z).2.1 rfl) ho, r⟩
  · by_cases hb : b = a
    · subst hb
      rw [upd_same] at e
      cases e
      exact new
    · rw [upd_ne hb] at e
      refine (I.hok b u e).stay (fun c v hc q => k c v ?_ q) (fun c q => by rw [upd_ne (ne_of_none q hn)]; exact q) fun c xs q => by rw [upd_ne (ne_of_none q hn)]; exact q
      rcases hc with z | z
      · rw [z]; exact nch b u e
      · exact nch c _ z
theorem Inv.turnedL {t' : Nat} {ch : List Addr} (I : Inv X pins σ H s) (hf : ∀ b ∈ ch, FpOk X pins H b) (k : ∀ b u, b ∉ ch → s.heap.get? b = some u → h'.get? b = some u) : Inv X pins σ H { s with heap := h', toks := t' } := by
  have nch : ∀ b u, H b = some u → b ∉ ch := fun b u e z => by rw [(hf b z).1] at e; cases e
  refine I.step (g' := s.gens) (d' := s.drawn) (ch := ch) (fun b hb => ?_) (fun b o _ _ hc e _ => k b o hc e) (fun b o _ _ hc e _ => ⟨o.slots, k b o hc e⟩) (fun _ _ _ _ n => n)
    (fun b o hc e => ⟨o, k b o hc e⟩) (fun _ _ e => e) (fun _ _ _ e => e) (fun b ps e => ⟨#[], by rw [e]; simp⟩) (fun m hm => ?_) (fun b u e => ?_) I.bare
  · obtain ⟨_, f1, _, f3, f4, f5⟩ := hf b hb
    exact ⟨f3, f1, f4, f5⟩
  · obtain ⟨o, es, ep, ho, r⟩ := hm
    exact ⟨o, es, ep, k _ o (fun z => (hf _ z).2.1 rfl) ho, r⟩
  · refine (I.hok b u e).stay (fun c v hc q => k c v ?_ q) (fun _ q => q) fun _ _ q => q
    rcases hc with z | z
    · rw [z]; exact nch b u e
    · exact nch c _ z
end
noncomputable def Itz (K : PySem.W.Frag) (a b : Addr) (xs ys : List V) : It :=
  ⟨fun i H => SqL K H a xs ∧ SqL K H b ys ∧ i < xs.length ∧ i < ys.length, fun i H v H' => ∃ T x y, H T = none ∧ xs[i]? = some x ∧ ys[i]? = some y ∧ v = .ref T ∧ H' = upd H T (.tup [x, y]), fun i H => SqL K H a xs ∧ SqL K H b ys ∧ (xs.length ≤ i ∨ ys.length ≤ i)⟩
theorem turn_zip {P : Program} {w : World} {K : PySem.W.Frag} {elts : List Expr} {k : Nat} {pos : Pos} (z TI TO i1 i2 a b : Addr) (D : ZipApart z TI TO i1 i2 a b) (xs ys : List V) :
    Turn P w K (.Tuple elts k pos) (Itz K a b xs ys) [z, TI, TO, i1, i2] z (fun i h => IsZip h z TI TO .none ∧ IsPair h TI (.ref i1) (.ref i2) ∧ (∃ u v, IsPair h TO u v) ∧ h.IsListIter i1 a i ∧ h.IsListIter i2 b i) where
  mem := by simp
  obj := fun i h st c hc => by
    obtain ⟨hz, hTI, ⟨u, v, hTO⟩, ⟨o1, e1, _, d1⟩, ⟨o2, e2, _, d2⟩⟩ := st
    rcases (by simpa using hc : c = z ∨ c = TI ∨ c = TO ∨ c = i1 ∨ c = i2) with rfl | rfl | rfl | rfl | rfl
    · exact ⟨_, hz, fun v e => by cases e⟩
    · exact ⟨_, hTI, fun v e => by cases e⟩
    · exact ⟨_, hTO, fun v e => by cases e⟩
    · exact ⟨o1, e1, fun v z => by rw [d1] at z; cases z⟩
    · exact ⟨o2, e2, fun v z => by rw [d2] at z; cases z⟩
  keep := fun i h h' st kp => by
    obtain ⟨hz, hTI, ⟨u, v, hTO⟩, h1, h2⟩ := st
    exact ⟨kp z (by simp) _ hz, kp TI (by simp) _ hTI, ⟨u, v, kp TO (by simp) _ hTO⟩, h1.at fun o e => kp i1 (by simp) o e, h2.at fun o e => kp i2 (by simp) o e⟩
  item := by
    intro X hP hw hK hc i pins s σ H E I hf st hg
    subst hP hw hK
    obtain ⟨hq1, hq2, hi1, hi2⟩ := hg
    obtain ⟨its1, rv1, p1, hz1⟩ := I.list hq1
    obtain ⟨its2, rv2, p2, hz2⟩ := I.list hq2
    obtain ⟨x, hx⟩ : ∃ x, xs[i]? = some x := ⟨_, List.getElem?_eq_getElem hi1⟩
    obtain ⟨y, hy⟩ : ∃ y, ys[i]? = some y := ⟨_, List.getElem?_eq_getElem hi2⟩
    obtain ⟨u, hu, ru⟩ := rv1.get hx
    obtain ⟨v, hv, rv⟩ := rv2.get hy
    obtain ⟨hz, hTI, ⟨a0, b0, hTO⟩, h1, h2⟩ := st
    refine wpAny_pyNext_zip_item D hz hTI hTO h1 h2 p1.isList p2.isList (x := u) (y := v) (by simpa using hu) (by simpa using hv) fun h' a1 a2 a3 a4 a5 a6 hk => ⟨_, rfl, ?_⟩
    refine wpAny_letOwnedTupleGo_zip (s := { s with heap := h' }) a1 fun h'' hz'' hs'' => ?_
    have kk : ∀ c o, c ∉ [z, TO, i1, i2] → s.heap.get? c = some o → h''.get? c = some o := fun c o hc e =>
      hs''.extBut _ _ (fun x => hc (by simp [x])) (hk c o (fun x => hc (by simp [x])) (fun x => hc (by simp [x])) (fun x => hc (by simp [x])) (fun x => hc (by simp [x])) e)
    have ltz : z < s.heap.objs.size := Heap.lt_size hz
    have hT : IsPair h'' s.heap.objs.size u v := hs''.extBut _ _ (Nat.ne_of_gt ltz) a5
    have fr := I.hok.fresh (Nat.le_refl s.heap.objs.size)
    refine ⟨.ref s.heap.objs.size, upd H s.heap.objs.size (.tup [x, y]), I.turnedNew (t' := s.toks) (ch := [z, TO, i1, i2]) (fun b hb => hf b ?_) kk (Nat.le_refl _) ⟨by show 2 ≤ sizeLine; decide, [u, v], .cons ru (.cons rv .nil), _, hT, rfl, _, rfl⟩, rfl, ⟨_, x, y, fr, hx, hy, rfl, rfl⟩, ?_, fun b hb => ?_⟩
    · simp at hb ⊢
      rcases hb with rfl | rfl | rfl | rfl <;> simp
    · exact ⟨hz'', hs''.extBut _ _ D.TIz (hk _ _ D.TIz D.TITO D.TIi1 D.TIi2 hTI), ⟨_, _, hs''.extBut _ _ D.TOz a2⟩, a3.extBut hs''.extBut D.i1z, a4.extBut hs''.extBut D.i2z⟩
    · have hb0 := (hf b hb).1
      have : b ≠ s.heap.objs.size := by
        rcases (by simpa using hb : b = z ∨ b = TI ∨ b = TO ∨ b = i1 ∨ b = i2) with rfl | rfl | rfl | rfl | rfl
        · exact Nat.ne_of_lt ltz
        · exact Nat.ne_of_lt (Heap.lt_size hTI)
        · exact Nat.ne_of_lt (Heap.lt_size hTO)
        · obtain ⟨_, e, _⟩ := h1; exact Nat.ne_of_lt (Heap.lt_size e)
        · obtain ⟨_, e, _⟩ := h2; exact Nat.ne_of_lt (Heap.lt_size e)
      rw [upd_ne this]
      exact hb0
  done := by
    intro X hP hw hK hc i pins s σ H E I hf st hg
    subst hP hw hK
    obtain ⟨hq1, hq2, hg⟩ := hg
    obtain ⟨its1, rv1, p1, hz1⟩ := I.list hq1
    obtain ⟨its2, rv2, p2, hz2⟩ := I.list hq2
    have l1 := rv1.length
    have l2 := rv2.length
    obtain ⟨hz, hTI, ⟨a0, b0, hTO⟩, h1, h2⟩ := st
    refine wpAny_pyNext_zip_end (I.ok.hd hc) D hz hTI hTO h1 h2 p1.isList p2.isList ?_ fun h' hk => ⟨rfl, I.turnedL (t' := s.toks) (ch := [z, TO, i1, i2]) (fun b hb => hf b ?_) fun b o hb e => hk b o (fun x => hb (by simp [x])) (fun x => hb (by simp [x])) (fun x => hb (by simp [x])) (fun x => hb (by simp [x])) e⟩
    · rcases hg with g | g
      · exact .inl (by simp; omega)
      · exact .inr (by simp; omega)
    · simp at hb ⊢
      rcases hb with rfl | rfl | rfl | rfl <;> simp
  self := fun _ _ _ _ _ st h => wpAny_pyIter_zip st.1 h
theorem zip_apart (I l1 l2 : Nat) (h1 : l1 < I) (h2 : l2 < I) : ZipApart (I + 4) (I + 2) (I + 3) I (I + 1) l1 l2 := by
  refine ⟨?_, ?_, ?_, ?_, ?_, ?_, ?_, ?_, ?_, ?_, ?_, ?_, ?_, ?_, ?_, ?_, ?_, ?_⟩
  all_goals
    intro e
    have e : (_ : Nat) = _ := e
    omega
noncomputable def iZip (K : PySem.W.Frag) (ta : TA) : TI := fun σ H R => ta σ H fun vs H1 => ∃ a b xs ys, vs = [.ref a, .ref b] ∧ SqL K H1 a xs ∧ SqL K H1 b ys ∧ R (Itz K a b xs ys) H1
section
variable {X : Cx}
theorem pi_zip {elts : List Expr} {k : Nat} {tpos : Pos} {a b : Expr} {ta : TA} {p pos : Pos} (hg : Gl X "zip") (hm : X.mg "zip" = none) (ha : PA X [a, b] ta) (hs : starEach [a, b] X.env = [(false, eval a X.env), (false, eval b X.env)] := by rfl) (hs2 : starEach [b] X.env = [(false, eval b X.env)] := by rfl) :
    PI X (.Tuple elts k tpos) (.Call (.Name "zip" p) [a, b] [] pos) (iZip X.K ta) := by
  intro pins s σ H R I h
  refine Call_ (ld_blt I hg hm boot_zip (PyProof.Rows.callWith_type1 (thn (ha pos pins s σ H _ I h) fun us s1 ⟨vs, H1, I1, r1, q1⟩ => ?_) (by rw [hs, hs2]) (by rw [hs2]; rfl)))
  obtain ⟨a, b, xs, ys, e, hq1, hq2, q⟩ := q1
  subst e
  obtain ⟨u1, u2, rfl, ru1, ru2⟩ : ∃ u1 u2, us = [u1, u2] ∧ RelV (.ref a) u1 ∧ RelV (.ref b) u2 := by
    cases r1 with
    | cons p q =>
      cases q with
      | cons p' q' =>
        cases q'
        exact ⟨_, _, rfl, p, p'⟩
  cases ru1
  cases ru2
  obtain ⟨its1, rv1, p1, hz1⟩ := I1.list hq1
  obtain ⟨its2, rv2, p2, hz2⟩ := I1.list hq2
  refine call_zip_2 p1.isList p2.isList fun h' hz hTI hTO hi1 hi2 hsz hk => wpAny_pyIter_zip hz ?_
  have la : a < s1.heap.objs.size := by obtain ⟨_, e, _⟩ := p1.isList; exact Heap.lt_size e
  have lb : b < s1.heap.objs.size := by obtain ⟨_, e, _⟩ := p2.isList; exact Heap.lt_size e
  have D : ZipApart (s1.heap.objs.size + 4) (s1.heap.objs.size + 2) (s1.heap.objs.size + 3) s1.heap.objs.size (s1.heap.objs.size + 1) a b := zip_apart _ _ _ la lb
  refine ⟨_, [s1.heap.objs.size + 4, s1.heap.objs.size + 2, s1.heap.objs.size + 3, s1.heap.objs.size, s1.heap.objs.size + 1], _, _, H1, rfl, I1.kept (t' := s1.toks) hk, turn_zip _ _ _ _ _ _ _ D xs ys, ⟨hz, hTI, ⟨_, _, hTO⟩, hi1, hi2⟩, fun b hb => ?_, q⟩
  have hb' : s1.heap.objs.size ≤ b := by
    rcases (by simpa using hb : b = s1.heap.objs.size + 4 ∨ b = s1.heap.objs.size + 2 ∨ b = s1.heap.objs.size + 3 ∨ b = s1.heap.objs.size ∨ b = s1.heap.objs.size + 1) with e | e | e | e | e <;> rw [e]
    · exact Nat.le_add_right _ _
    · exact Nat.le_add_right _ _
    · exact Nat.le_add_right _ _
    · exact Nat.le_refl _
    · exact Nat.le_add_right _ _
  exact I1.fpOk hb' (I1.hok.fresh hb')
end
theorem for_zip {K : PySem.W.Frag} {a b : Addr} {xs ys : List V} {g : TG} {tb : TS} {D : Ends} {σ : St} {H : Hp} (Pv : Nat → St → Hp → Prop) (h0 : Pv 0 σ H) (hl : ∀ i σ H, Pv i σ H → SqL K H a xs ∧ SqL K H b ys)
    (hs : ∀ i x y T σ H, xs[i]? = some x → ys[i]? = some y → H T = none → Pv i σ H → g (.ref T) σ (upd H T (.tup [x, y])) fun σ2 H2 => tb { D with nx := Pv (i + 1), ct := Pv (i + 1), bk := D.nx } σ2 H2) (hd : ∀ σ H, Pv (min xs.length ys.length) σ H → D.nx σ H) :
    ∃ W : Nat → Nat → St → Hp → Prop, (∃ m, W 0 m σ H) ∧ ∀ i m σ H, W i m σ H →
      ((Itz K a b xs ys).stop i H ∧ D.nx σ H) ∨ ((Itz K a b xs ys).go i H ∧ ∃ N : St → Hp → Prop, (∀ σ' H', N σ' H' → ∃ m', m' < m ∧ W (i + 1) m' σ' H') ∧ ∀ x H', (Itz K a b xs ys).yld i H x H' → g x σ H' fun σ2 H2 => tb { D with nx := N, ct := N, bk := D.nx } σ2 H2) := by
  refine ⟨fun i m σ H => m = min xs.length ys.length - i ∧ i ≤ min xs.length ys.length ∧ Pv i σ H, ⟨_, rfl, Nat.zero_le _, h0⟩, ?_⟩
  rintro i m σ H ⟨rfl, hi, p⟩
  obtain ⟨q1, q2⟩ := hl i σ H p
  by_cases hlt : i < min xs.length ys.length
  · refine .inr ⟨⟨q1, q2, by omega, by omega⟩, Pv (i + 1), fun σ' H' p' => ⟨min xs.length ys.length - (i + 1), by omega, rfl, hlt, p'⟩, fun x H' y => ?_⟩
    obtain ⟨T, u, v, hT, hu, hv, rfl, rfl⟩ := y
    exact hs i u v T σ H hu hv hT p
  · have e : i = min xs.length ys.length := by omega
    subst e
    exact .inl ⟨⟨q1, q2, by omega⟩, hd σ H p⟩
end L2

set_option genSizeOf false
set_option genInjectivity false
namespace L2
open PySem PySem.Spec PyProof.Rows
section
variable {X : Cx}
end
end L2

set_option genSizeOf false
set_option genInjectivity false
namespace L2
open PySem
theorem comp_fil {J : It} {n : Nat} {cap : List (Nat × Str)} {own : Nat} {g : TG} {tc : TT} {te : TE} {σ : St} {H : Hp} {Q : Addr → Hp → Prop} (c : Nat → Bool) (f : Nat → V) (hn : n ≤ 1000)
    (go : ∀ i H', Same H H' → i < n → J.go i H') (stop : ∀ H', Same H H' → J.stop n H')
    (turn : ∀ i x H' H1 (Q1 : V → Hp → Prop) (Q2 : Hp → Prop), i < n → Same H H' → J.yld i H' x H1 → (c i = true → ∀ H4, Same H' H4 → Q1 (f i) H4) → (c i = false → ∀ H3, Same H' H3 → Q2 H3) →
      g x (blk cap own σ) H1 fun σ2 H2 => (σ2.take cap.length = capσ cap σ ∧ σ2.length = cap.length + own) ∧ tc σ2 H2 fun b H3 => if b = true then te σ2 H3 Q1 else Q2 H3)
    (done : ∀ D H', H D = none → Same H H' → H' D = some (.lst (((List.range n).filter c).map f)) → Q D H') :
    ∀ D, H D = none → ∃ W : Nat → Nat → List V → Hp → Prop, (∃ m, W 0 m [] (upd H D (.lst []))) ∧ ∀ i m ys H, W i m ys H → H D = some (.lst ys) ∧
      ((J.stop i H ∧ Q D H) ∨ (J.go i H ∧ ∀ x H', J.yld i H x H' → g x (blk cap own σ) H' fun σ2 H2 =>
        (σ2.take cap.length = capσ cap σ ∧ σ2.length = cap.length + own) ∧ tc σ2 H2 fun b H3 =>
          if b = true then te σ2 H3 fun v H4 => H4 D = some (.lst ys) ∧ ys.length < sizeLine ∧ ∃ m', m' < m ∧ W (i + 1) m' (ys ++ [v]) (upd H4 D (.lst (ys ++ [v])))
          else ∃ m', m' < m ∧ W (i + 1) m' ys H3)) := by
  intro D hD
  refine ⟨fun i m ys H' => m = n - i ∧ i ≤ n ∧ Same H H' ∧ H' D = some (.lst ys) ∧ ys = ((List.range i).filter c).map f, ⟨n, by simp, Nat.zero_le _, Same.upd hD, upd_same, rfl⟩, ?_⟩
  rintro i m ys H' ⟨rfl, hi, s, hd, rfl⟩
  refine ⟨hd, ?_⟩
  by_cases hlt : i < n
  · refine .inr ⟨go i H' s hlt, fun x H1 y => turn i x H' H1 _ _ hlt s y (fun hc H4 s4 => ?_) (fun hc H3 s3 => ?_)⟩
    · have hl : (((List.range i).filter c).map f).length ≤ i := by
        rw [List.length_map]
        exact Nat.le_trans (List.length_filter_le _ _) (by simp)
      refine ⟨s4 _ _ hd, small1000 (by omega), n - (i + 1), by omega, rfl, hlt, (s.trans s4).upd' hD, upd_same, ?_⟩
      rw [List.range_succ, List.filter_append, List.map_append]
      simp [hc]
    · refine ⟨n - (i + 1), by omega, rfl, hlt, s.trans s3, s3 _ _ hd, ?_⟩
      rw [List.range_succ, List.filter_append, List.map_append]
      simp [hc]
  · have e : i = n := by omega
    subst e
    exact .inl ⟨stop H' s, done D H' hD s hd⟩
theorem fil_bl (c b : Nat → Bool) (n : Nat) : ((List.range n).filter c).map (fun i => V.bl (b i)) = (((List.range n).filter c).map b).map V.bl := by
  rw [List.map_map]; rfl
theorem fil_all (n : Nat) : (List.range n).filter (fun _ => true) = List.range n := by simp
theorem ints_get {ns : List Int} {i : Nat} {x : V} (h : (ns.map V.int)[i]? = some x) : i < ns.length ∧ x = .int (ns.getD i 0) := by
  rw [List.getElem?_map] at h
  cases e : ns[i]? with
  | none => rw [e] at h; cases h
  | some z =>
    rw [e] at h
    refine ⟨(List.getElem?_eq_some_iff.mp e).1, ?_⟩
    rw [List.getD_eq_getElem?_getD, e]
    exact (Option.some.inj h).symm
theorem ints_at {ns : List Int} {i : Nat} (h : i < ns.length) : (ns.map V.int)[i]? = some (.int (ns.getD i 0)) := by
  rw [List.getElem?_map, List.getD_eq_getElem?_getD, List.getElem?_eq_getElem h]
  rfl
end L2

set_option genSizeOf false
set_option genInjectivity false
namespace Fm
noncomputable abbrev Row := List (Int × Int)
noncomputable def pl (r : Row) (i : Nat) : Int := (r.getD i (0, 0)).1
noncomputable def ht (r : Row) (i : Nat) : Int := (r.getD i (0, 0)).2
structure Good (r : Row) : Prop where
  rise : ∀ i j : Nat, i < j → j < r.length → pl r i < pl r j
  high : ∀ i : Nat, i < r.length → 1 ≤ ht r i

noncomputable def Kn (r : Row) (sd : Int) (i j : Nat) : Prop :=
  if sd = 1 then i < j ∧ j < r.length ∧ pl r j - pl r i ≤ ht r i else j < i ∧ i < r.length ∧ pl r i - pl r j ≤ ht r i
inductive Fall (r : Row) (sd : Int) (s : Nat) : Nat → Prop where
  | refl : Fall r sd s s
  | step {i j : Nat} : Fall r sd s i → Kn r sd i j → Fall r sd s j

noncomputable def run : Int → Row → Nat
  | _, [] => 0
  | c, (p, h) :: t => if p ≤ c then run (max c (p + h)) t + 1 else 0
noncomputable def fs (r : Row) (s : Nat) : Nat := s + 1 + run (pl r s + ht r s) (r.drop (s + 1))
noncomputable def mir (r : Row) : Row := (r.map fun p => (-p.1, p.2)).reverse

theorem run_le : ∀ (c : Int) (t : Row), run c t ≤ t.length
  | _, [] => Nat.le_refl _
  | c, (p, h) :: t => by
    unfold run
    split
    · have := run_le (max c (p + h)) t
      simp only [List.length_cons]; omega
    · exact Nat.zero_le _
theorem fs_le {r : Row} {s : Nat} (h : s < r.length) : fs r s ≤ r.length := by
  unfold fs
  have := run_le (pl r s + ht r s) (r.drop (s + 1))
  rw [List.length_drop] at this
  omega
theorem lt_fs (r : Row) (s : Nat) : s < fs r s := by unfold fs; omega
theorem run_in : ∀ (c : Int) (t : Row) (j : Nat), j < run c t → pl t j ≤ c ∨ ∃ i, i < j ∧ pl t j ≤ pl t i + ht t i
  | c, [], j, h => by simp [run] at h
  | c, (p, q) :: t, j, h => by
    unfold run at h
    split at h
    · rename_i hp
      cases j with
      | zero => exact .inl (by simpa [pl] using hp)
      | succ j =>
        have ih := run_in (max c (p + q)) t j (by omega)
        have e1 : pl ((p, q) :: t) (j + 1) = pl t j := rfl
        rcases ih with ih | ⟨i, hi, ih⟩
        · rw [e1]
          by_cases hc : pl t j ≤ c
          · exact .inl hc
          · exact .inr ⟨0, by omega, by show pl t j ≤ p + q; omega⟩
        · exact .inr ⟨i + 1, by omega, by rw [e1]; exact ih⟩
    · omega
theorem run_out : ∀ (c : Int) (t : Row), run c t < t.length → c < pl t (run c t) ∧ ∀ i, i < run c t → pl t i + ht t i < pl t (run c t)
  | c, [], h => by simp [run] at h
  | c, (p, q) :: t, h => by
    by_cases hp : p ≤ c
    · have e : run c ((p, q) :: t) = run (max c (p + q)) t + 1 := by rw [run, if_pos hp]
      rw [e] at h ⊢
      obtain ⟨a, b⟩ := run_out (max c (p + q)) t (by simpa using h)
      have e1 : pl ((p, q) :: t) (run (max c (p + q)) t + 1) = pl t (run (max c (p + q)) t) := rfl
      rw [e1]
      refine ⟨by omega, fun i hi => ?_⟩
      cases i with
      | zero => show p + q < _; omega
      | succ i => exact b i (by omega)
    · have e : run c ((p, q) :: t) = 0 := by rw [run, if_neg hp]
      rw [e]
      exact ⟨by show c < p; omega, fun i hi => by omega⟩
theorem pl_drop (r : Row) (n i : Nat) : pl (r.drop n) i = pl r (n + i) := by unfold pl; simp [List.getD]
theorem ht_drop (r : Row) (n i : Nat) : ht (r.drop n) i = ht r (n + i) := by unfold ht; simp [List.getD]
theorem fs_in {r : Row} {s j : Nat} (h1 : s < j) (h2 : j < fs r s) : ∃ i, s ≤ i ∧ i < j ∧ pl r j ≤ pl r i + ht r i := by
  unfold fs at h2
  have := run_in (pl r s + ht r s) (r.drop (s + 1)) (j - (s + 1)) (by omega)
  rw [pl_drop, show s + 1 + (j - (s + 1)) = j by omega] at this
  rcases this with h | ⟨i, hi, h⟩
  · exact ⟨s, Nat.le_refl _, h1, h⟩
  · rw [pl_drop, ht_drop] at h
    exact ⟨s + 1 + i, by omega, by omega, h⟩
theorem fs_out {r : Row} {s : Nat} (hs : s < r.length) (h : fs r s < r.length) : ∀ i, s ≤ i → i < fs r s → pl r i + ht r i < pl r (fs r s) := by
  have := run_out (pl r s + ht r s) (r.drop (s + 1)) (by rw [List.length_drop]; unfold fs at h; omega)
  obtain ⟨a, b⟩ := this
  rw [pl_drop] at a b
  intro i h1 h2
  have e : s + 1 + run (pl r s + ht r s) (r.drop (s + 1)) = fs r s := rfl
  rw [e] at a b
  by_cases hi : i = s
  · subst hi; exact a
  · have := b (i - (s + 1)) (by unfold fs at h2; omega)
    rw [pl_drop, ht_drop, show s + 1 + (i - (s + 1)) = i by omega] at this
    exact this
theorem mir_length (r : Row) : (mir r).length = r.length := by unfold mir; simp
theorem mir_at {r : Row} {i : Nat} (h : i < r.length) : (mir r)[i]? = (r[r.length - 1 - i]?).map fun p => (-p.1, p.2) := by
  unfold mir
  rw [List.getElem?_reverse (by simpa using h), List.getElem?_map]
  simp
theorem mir_pl {r : Row} {i : Nat} (h : i < r.length) : pl (mir r) i = - pl r (r.length - 1 - i) := by
  unfold pl
  have := mir_at h
  have h2 : r.length - 1 - i < r.length := by omega
  simp only [List.getD, this]
  rw [List.getElem?_eq_getElem h2]
  rfl
theorem mir_ht {r : Row} {i : Nat} (h : i < r.length) : ht (mir r) i = ht r (r.length - 1 - i) := by
  unfold ht
  have := mir_at h
  have h2 : r.length - 1 - i < r.length := by omega
  simp only [List.getD, this]
  rw [List.getElem?_eq_getElem h2]
  rfl
theorem Good.mir {r : Row} (g : Good r) : Good (mir r) where
  rise := fun i j h1 h2 => by
    rw [mir_length] at h2
    rw [mir_pl (by omega), mir_pl h2]
    have := g.rise (r.length - 1 - j) (r.length - 1 - i) (by omega) (by omega)
    omega
  high := fun i h => by
    rw [mir_length] at h
    rw [mir_ht h]
    exact g.high _ (by omega)
noncomputable def Sd (sd : Int) : Prop := sd = 1 ∨ sd = -1
theorem kn_lt {r : Row} {sd : Int} {i j : Nat} (k : Kn r sd i j) : i < r.length ∧ j < r.length := by
  unfold Kn at k
  split at k <;> omega
theorem fall_lt {r : Row} {sd : Int} {s j : Nat} (hs : s < r.length) (h : Fall r sd s j) : j < r.length := by
  cases h with
  | refl => exact hs
  | step _ k => exact (kn_lt k).2
theorem sorted_ext : ∀ {l m : List Int}, l.Pairwise (· < ·) → m.Pairwise (· < ·) → (∀ x, x ∈ l ↔ x ∈ m) → l = m
  | [], [], _, _, _ => rfl
  | [], b :: m, _, _, h => absurd ((h b).mpr (List.mem_cons_self ..)) (by simp)
  | a :: l, [], _, _, h => absurd ((h a).mp (List.mem_cons_self ..)) (by simp)
  | a :: l, b :: m, hl, hm, h => by
    obtain ⟨l1, l2⟩ := List.pairwise_cons.mp hl
    obtain ⟨m1, m2⟩ := List.pairwise_cons.mp hm
    have e : a = b := by
      rcases List.mem_cons.mp ((h a).mp (List.mem_cons_self ..)) with x | x
      · exact x
      · rcases List.mem_cons.mp ((h b).mpr (List.mem_cons_self ..)) with y | y
        · exact y.symm
        · have := m1 a x; have := l1 b y; omega
    subst e
    congr 1
    refine sorted_ext l2 m2 fun x => ?_
    constructor
    · intro hx
      rcases List.mem_cons.mp ((h x).mp (List.mem_cons_of_mem _ hx)) with y | y
      · subst y; exact absurd (l1 x hx) (Int.lt_irrefl _)
      · exact y
    · intro hx
      rcases List.mem_cons.mp ((h x).mpr (List.mem_cons_of_mem _ hx)) with y | y
      · subst y; exact absurd (m1 x hx) (Int.lt_irrefl _)
      · exact y

structure Bfs (r : Row) (sd : Int) (s : Nat) (ws : List Nat) (d : Nat) : Prop where
  nd : ws.Nodup
  st : s ∈ ws
  fl : ∀ i ∈ ws, Fall r sd s i
  le : d ≤ ws.length
  cl : ∀ k i, k < d → ws[k]? = some i → ∀ j, Kn r sd i j → j ∈ ws
theorem Bfs.start (r : Row) (sd : Int) (s : Nat) : Bfs r sd s [s] 0 :=
  ⟨by simp, by simp, fun i hi => by rw [List.mem_singleton.mp hi]; exact .refl, by simp, fun k _ h => by omega⟩
structure BfsIn (r : Row) (sd : Int) (s : Nat) (ws : List Nat) (d : Nat) (one : Nat) (t : Nat) : Prop extends Bfs r sd s ws d where
  one_at : ws[d]? = some one
  met : ∀ j : Nat, Kn r sd one j → ((j : Int) - one) * sd ≤ t → j ∈ ws
theorem nodup_le : ∀ {n : Nat} {ws : List Nat}, ws.Nodup → (∀ i ∈ ws, i < n) → ws.length ≤ n
  | 0, ws, _, hl => by
    cases ws with
    | nil => exact Nat.le_refl _
    | cons a r => exact absurd (hl a (List.mem_cons_self ..)) (Nat.not_lt_zero _)
  | n + 1, ws, h, hl => by
    have h1 := nodup_le (n := n) (h.erase n) fun i hi => by
      have := (List.Nodup.mem_erase_iff h).mp hi
      have := hl i this.2
      omega
    rw [List.length_erase] at h1
    split at h1 <;> omega
theorem Bfs.lt {r : Row} {sd : Int} {s : Nat} {ws : List Nat} {d : Nat} (b : Bfs r sd s ws d) (hs : s < r.length) : ∀ i ∈ ws, i < r.length := fun i hi => fall_lt hs (b.fl i hi)
theorem Bfs.len {r : Row} {sd : Int} {s : Nat} {ws : List Nat} {d : Nat} (b : Bfs r sd s ws d) (hs : s < r.length) : ws.length ≤ r.length := nodup_le b.nd (b.lt hs)
theorem kn_far {r : Row} {sd : Int} (hd : Sd sd) {i j : Nat} (k : Kn r sd i j) : 1 ≤ ((j : Int) - i) * sd := by
  unfold Kn at k
  rcases hd with e | e
  · subst e; rw [if_pos rfl] at k; omega
  · subst e; rw [if_neg (by decide)] at k; omega
theorem Bfs.take {r : Row} {sd : Int} (hd : Sd sd) {s : Nat} {ws : List Nat} {d one : Nat} (b : Bfs r sd s ws d) (h : ws[d]? = some one) : BfsIn r sd s ws d one 0 :=
  { b with one_at := h, met := fun j k h => by have := kn_far hd k; omega }
theorem kn_at {r : Row} {sd : Int} (hd : Sd sd) {one at' t : Nat} (ho : one < r.length) (ha : at' < r.length) (e : (at' : Int) = one + sd * (t + 1)) (h : (pl r at' - pl r one).natAbs ≤ ht r one) : Kn r sd one at' := by
  unfold Kn
  rcases hd with x | x
  · subst x; rw [if_pos rfl]; omega
  · subst x; rw [if_neg (by decide)]; omega
theorem far_inj {sd : Int} (hd : Sd sd) {one at' j t : Nat} (e : (at' : Int) = one + sd * (t + 1)) (h : ((j : Int) - one) * sd = t + 1) : j = at' := by
  rcases hd with x | x <;> subst x <;> omega
theorem BfsIn.old {r : Row} {sd : Int} (hd : Sd sd) {s : Nat} {ws : List Nat} {d one t at' : Nat} (b : BfsIn r sd s ws d one t) (e : (at' : Int) = one + sd * (t + 1)) (h : at' ∈ ws) : BfsIn r sd s ws d one (t + 1) := by
  refine { b with met := ?_ }
  intro j k hj
  by_cases hc : ((j : Int) - one) * sd ≤ t
  · exact b.met j k hc
  · rw [far_inj hd e (j := j) (by omega)]; exact h
theorem BfsIn.new {r : Row} {sd : Int} (hd : Sd sd) {s : Nat} {ws : List Nat} {d one t at' : Nat} (hs : s < r.length) (b : BfsIn r sd s ws d one t) (ha : at' < r.length) (e : (at' : Int) = one + sd * (t + 1))
    (hk : (pl r at' - pl r one).natAbs ≤ ht r one) (h : ¬ at' ∈ ws) : BfsIn r sd s (ws ++ [at']) d one (t + 1) := by
  have mo : one ∈ ws := List.mem_of_getElem? b.one_at
  have ho : one < r.length := b.lt hs one mo
  have kk := kn_at hd ho ha e hk
  refine { nd := ?_, st := List.mem_append_left _ b.st, fl := ?_, le := ?_, cl := ?_, one_at := ?_, met := ?_ }
  · refine List.nodup_append.mpr ⟨b.nd, by simp, fun x hx y hy z => h ?_⟩
    rw [List.mem_singleton.mp hy] at z
    rw [← z]; exact hx
  · intro i hi
    rcases List.mem_append.mp hi with hi | hi
    · exact b.fl i hi
    · rw [List.mem_singleton.mp hi]; exact .step (b.fl one mo) kk
  · have := b.le; simp; omega
  · intro k i hk' hi j hj
    have h1 : k < ws.length := by have := b.le; omega
    rw [List.getElem?_append_left h1] at hi
    exact List.mem_append_left _ (b.cl k i hk' hi j hj)
  · have h1 : d < ws.length := (List.getElem?_eq_some_iff.mp b.one_at).1
    rw [List.getElem?_append_left h1]; exact b.one_at
  · intro j k hj
    by_cases hc : ((j : Int) - one) * sd ≤ t
    · exact List.mem_append_left _ (b.met j k hc)
    · rw [far_inj hd e (j := j) (by omega)]; simp
theorem Bfs.done {r : Row} {sd : Int} {s : Nat} {ws : List Nat} {d : Nat} (b : Bfs r sd s ws d) (h : ws.length ≤ d) (j : Nat) : j ∈ ws ↔ Fall r sd s j := by
  constructor
  · exact b.fl j
  · intro f
    induction f with
    | refl => exact b.st
    | @step i j _ k ih =>
      obtain ⟨n, hn⟩ := List.getElem?_of_mem ih
      exact b.cl n i (by have := (List.getElem?_eq_some_iff.mp hn).1; omega) hn j k
end Fm

set_option genSizeOf false
set_option genInjectivity false
namespace Fk
open PySem L2 Fm PyProof.Rows
noncomputable def top (i : Nat) : Stmt := PySem.Challenge.pw_fallrow_k04_whole_rights.main.body.getD i (.Pass ⟨0, 0, 0, 0⟩)
noncomputable abbrev sNum : Stmt := top 6
noncomputable abbrev sPair : Stmt := top 7
noncomputable abbrev sStone : Stmt := top 8
noncomputable abbrev sChkRow : Stmt := top 12
noncomputable abbrev sMirr : Stmt := top 13
noncomputable abbrev sFirst : Stmt := top 14
noncomputable abbrev s_reach : Stmt := top 16
noncomputable abbrev s_right_ends : Stmt := top 18
noncomputable abbrev s_left_ends : Stmt := top 19
noncomputable abbrev s_every_push : Stmt := top 20
noncomputable abbrev s_spans : Stmt := top 21
noncomputable abbrev s_unknocked : Stmt := top 22
noncomputable abbrev s_Fewest_init : Stmt := inClass (top 30) 0
noncomputable abbrev s_Rights_init : Stmt := inClass (top 31) 0
noncomputable abbrev s_Rights_shows : Stmt := inClass (top 31) 1
noncomputable abbrev s_widest : Stmt := top 34
noncomputable abbrev s_fewest : Stmt := top 35
noncomputable abbrev s_rights : Stmt := top 36
noncomputable abbrev sRow : Stmt := top 38
noncomputable abbrev sNums : Stmt := top 39
noncomputable abbrev s_law_felled : Stmt := top 40
noncomputable abbrev s_law_rights : Stmt := top 41
noncomputable abbrev sRight : Stmt := top 42
noncomputable abbrev sLaw : Stmt := top 43
end Fk

set_option genSizeOf false
set_option genInjectivity false
namespace Fk
open PySem L2 Fm PyProof.Rows
structure Cst (mg : Str → Option Value) (tR tL : Tok) : Prop where
  hR : mg "RIGHT" = some (.int 1 tR)
  hL : mg "LEFT" = some (.int (-1) tL)
theorem ty_kit {K : PySem.W.Frag} {H : Hp} {x : V} {T : String} (ty : TyOf K H x (.type T)) : kitB0 T "int" = some (decide (T = "int" ∨ T = "bool")) ∧ kitB0 T "bool" = some (decide (T = "bool")) ∧ kitB0 T "list" = some (decide (T = "list")) ∧ kitB0 T "tuple" = some (decide (T = "tuple")) := by
  cases ty <;> decide +kernel
theorem ty_tup {K : PySem.W.Frag} {H : Hp} {x : V} {t : Value} (ty : TyOf K H x t) (e : t = .type "tuple") : ∃ a xs, x = .ref a ∧ H a = some (.tup xs) := by
  cases ty with
  | tup e' => exact ⟨_, _, rfl, e'⟩
  | ins => cases e
  | _ => injection e with z; exact absurd z (by decide)
section
variable {P : Program} {w : World} {K : PySem.W.Frag} {mg : Str → Option Value} {base : Heap}
noncomputable def spNum (K : PySem.W.Frag) : Sp := fun vs H Q _ => ∃ x T, vs = [x] ∧ TyOf K H x (.type T) ∧ Q (.bl (decide (T = "int"))) H
theorem scNum : FnScope ["value"] ["value"] (defScope sNum) := ⟨rfl, rfl, rfl, by decide +kernel, rfl, by decide +kernel, by decide +kernel⟩
theorem ok_num {f : Addr} {fd : FuncData} (F : Fun K "is_number" "is_number" sNum f fd) (B : Blt mg) : FnOk P w K mg base CX0 1 f fd ["value"] (spNum K) := by
  refine F.ok scNum (fun vs H Q E h => ?_) (fun cdv A outer s H vs Q E hr h => ?_)
  · obtain ⟨x, T, rfl, _⟩ := h
    rfl
  · obtain ⟨x, T, rfl, ty, q⟩ := h
    obtain ⟨k1, k2, _⟩ := ty_kit ty
    refine ⟨_, (pss_one (ps_ret (pe_and (pe_callB call_isi (by rfl) B.b_isinstance boot_isinstance (pa_cons (pv 0) (pa_cons (pe_bltn (v := .ty "int") rfl B.b_int boot_int rfl) pa_nil))) (pe_one (pe_not (pe_callB call_isi (by rfl) B.b_isinstance boot_isinstance (pa_cons (pv 0) (pa_cons (pe_bltn (v := .ty "bool") rfl B.b_bool boot_bool rfl) pa_nil)))))))), ?_⟩
    refine ⟨_, rfl, _, _, _, _, rfl, ty, kitB k1, _, rfl, ?_⟩
    by_cases c : T = "int" ∨ T = "bool"
    · rw [decide_eq_true c]
      refine iteT ⟨_, rfl, _, _, _, _, rfl, ty, kitB k2, _, rfl, ?_⟩
      have e : (!decide (T = "bool")) = decide (T = "int") := by rcases c with rfl | rfl <;> rfl
      show Q (.bl (!decide (T = "bool"))) H
      rw [e]
      exact q
    · rw [decide_eq_false c]
      refine iteF ?_
      rw [decide_eq_false fun e => c (.inl e)] at q
      exact q
noncomputable def spPair (K : PySem.W.Frag) : Sp := fun vs H Q _ => ∃ x T, vs = [x] ∧ TyOf K H x (.type T) ∧ (∀ a xs, x = .ref a → H a = some (.tup xs) → Q (.bl (decide (xs.length = 2))) H) ∧ (T ≠ "tuple" → Q (.bl false) H)
theorem scPair : FnScope ["value"] ["value"] (defScope sPair) := ⟨rfl, rfl, rfl, by decide +kernel, rfl, by decide +kernel, by decide +kernel⟩
theorem dec_len (n : Nat) : decide (V.int (n : Int) = V.int 2) = decide (n = 2) := by
  rw [dec_int, Bool.eq_iff_iff, beq_iff_eq, decide_eq_true_eq]
  omega
theorem ok_pair {f : Addr} {fd : FuncData} (F : Fun K "is_pair" "is_pair" sPair f fd) (B : Blt mg) : FnOk P w K mg base CX0 1 f fd ["value"] (spPair K) := by
  refine F.ok scPair (fun vs H Q E h => ?_) (fun cdv A outer s H vs Q E hr h => ?_)
  · obtain ⟨x, T, rfl, _⟩ := h
    rfl
  · obtain ⟨x, T, rfl, ty, q1, q2⟩ := h
    obtain ⟨_, _, _, k4⟩ := ty_kit ty
    refine ⟨_, (pss_one (ps_ret (pe_and (pe_callB call_isi (by rfl) B.b_isinstance boot_isinstance (pa_cons (pv 0) (pa_cons (pe_bltn (v := .ty "tuple") rfl B.b_tuple boot_tuple rfl) pa_nil))) (pe_one (pe_cmpR op_eq (pe_callB call_len_seq (by rfl) B.b_len boot_len (pa_cons (pv 0) pa_nil)) pe_int (nomark _)))))), ?_⟩
    refine ⟨_, rfl, _, _, _, _, rfl, ty, kitB k4, _, rfl, ?_⟩
    by_cases c : T = "tuple"
    · rw [decide_eq_true c]
      subst c
      obtain ⟨a, xs, rfl, e⟩ := ty_tup ty rfl
      refine iteT ⟨_, rfl, a, xs, rfl, .inr (SqT.of e), rfl, ?_⟩
      rw [dec_len]
      exact q1 a xs rfl e
    · rw [decide_eq_false c]
      exact iteF (q2 c)
noncomputable def spStone : Sp := fun vs H Q _ => ∃ t p h, vs = [.ref t] ∧ H t = some (.tup [.int p, .int h]) ∧ Q (.bl (decide (1 ≤ h))) H
theorem scStone : FnScope ["value"] ["value"] (defScope sStone) := ⟨rfl, rfl, rfl, by decide +kernel, rfl, by decide +kernel, by decide +kernel⟩
theorem ok_stone {f : Addr} {fd : FuncData} (F : Fun K "is_stone" "is_stone" sStone f fd) (B : Blt mg) (d_is_pair : Dfn P w K mg base "is_pair" 1 ["value"] (spPair K)) (d_is_number : Dfn P w K mg base "is_number" 1 ["value"] (spNum K)) : FnOk P w K mg base CX0 2 f fd ["value"] spStone := by
  refine F.ok scStone (fun vs H Q E h => ?_) (fun cdv A outer s H vs Q E hr h => ?_)
  · obtain ⟨t, p, h, rfl, _⟩ := h
    rfl
  · obtain ⟨t, p, h, rfl, ht, q⟩ := h
    refine ⟨_, (pss_one (ps_ret (pe_and (pe_callD d_is_pair (hr.mono (by decide)) (by rfl) (pa_cons (pv 0) pa_nil)) (pe_and (pe_callD d_is_number (hr.mono (by decide)) (by rfl) (pa_cons (pe_ix ix_tup (pv 0) pe_int (fun _ _ => rfl)) pa_nil)) (pe_and (pe_callD d_is_number (hr.mono (by decide)) (by rfl) (pa_cons (pe_ix ix_tup (pv 0) pe_int (fun _ _ => rfl)) pa_nil)) (pe_one (pe_cmpR op_ge (pe_ix ix_tup (pv 0) pe_int (fun _ _ => rfl)) pe_int (nomark _)))))))), ?_⟩
    refine ⟨_, rfl, _, _, rfl, TyOf.tup ht, fun a xs e e2 => ?_, fun z => absurd rfl z⟩
    cases e
    rw [ht] at e2
    cases e2
    refine ⟨_, rfl, iteT ⟨_, rfl, t, _, 0, _, rfl, rfl, SqT.of ht, rfl, _, _, rfl, TyOf.int p, _, rfl, iteT ⟨_, rfl, t, _, 1, _, rfl, rfl, SqT.of ht, rfl, _, _, rfl, TyOf.int h, _, rfl, iteT ⟨_, rfl, t, _, 1, _, rfl, rfl, SqT.of ht, rfl, _, _, rfl, rfl, q⟩⟩⟩⟩
end
end Fk

set_option genSizeOf false
set_option genInjectivity false
namespace Fk
open PySem L2 Fm PyProof.Rows
section
variable {P : Program} {w : World} {K : PySem.W.Frag} {mg : Str → Option Value} {base : Heap}
structure RowOk (H : Hp) (a : Addr) (r : Row) : Prop where
  at_ : RowAt H a r
  gd : Good r
  le : r.length ≤ 1000
theorem RowOk.same {H H' : Hp} {a : Addr} {r : Row} (x : RowOk H a r) (s : Same H H') : RowOk H' a r := ⟨x.at_.same s, x.gd, x.le⟩
noncomputable def spChkRow : Sp := fun vs H Q _ => ∃ a r, vs = [.ref a] ∧ RowOk H a r ∧ Q .non H
theorem scChkRow : FnScope ["row", "stone", "k"] ["row"] (defScope sChkRow) := ⟨rfl, rfl, rfl, by decide +kernel, rfl, by decide +kernel, by decide +kernel⟩
theorem atI_cast {α : Type} {xs : List α} {i : Int} {j : Nat} {v : α} (e : i = (j : Int)) (h : xs[j]? = some v) : atI xs i = some v := by
  rw [e]
  exact atI_nat h
theorem ok_chkRow {f : Addr} {fd : FuncData} (F : Fun K "check_row" "check_row" sChkRow f fd) (B : Blt mg) (d_is_stone : Dfn P w K mg base "is_stone" 2 ["value"] spStone) : FnOk P w K mg base CX0 3 f fd ["row"] spChkRow := by
  refine F.ok scChkRow (fun vs H Q E h => ?_) (fun cdv A outer s H vs Q E hr h => ?_)
  · obtain ⟨a, r, rfl, _⟩ := h
    rfl
  · obtain ⟨a, r, rfl, ⟨⟨xs, ha, hx⟩, g, hle⟩, q⟩ := h
    have hlen := hx.length
    refine ⟨_, (pss_cons (ps_if (pt_not (pt_val (pe_callB call_isi (by rfl) B.b_isinstance boot_isinstance (pa_cons (pv 0) (pa_cons (pe_bltn (v := .ty "list") rfl B.b_list boot_list rfl) pa_nil)))))
        (pss_one ps_never)
        pss_nil)
      (pss_cons (ps_for PassesOwn.never rfl (pi_list (pv 0)) (pg_name (i := 1) scChkRow.nd rfl (Or.inl rfl))
        (pss_one (ps_if (pt_not (pt_val (pe_callD d_is_stone (hr.mono (by decide)) (by rfl) (pa_cons (pv 1) pa_nil))))
          (pss_one ps_never)
          pss_nil)))
      (pss_one (ps_for PassesOwn.never rfl (pi_range2 rfl B.b_range (pa_cons pe_int (pa_cons (pe_callB call_len_seq (by rfl) B.b_len boot_len (pa_cons (pv 0) pa_nil)) pa_nil))) (pg_name (i := 2) scChkRow.nd rfl (Or.inl rfl))
        (pss_one (ps_if (pt_cmpR op_le (pe_ix ix_tup (pe_ix ix_list (pv 0) (pv 2) (fun _ _ => rfl)) pe_int (fun _ _ => rfl)) (pe_ix ix_tup (pe_ix ix_list (pv 0) (pe_op op_sub (pv 2) pe_int) (fun _ _ => rfl)) pe_int (fun _ _ => rfl)) (nomark _))
          (pss_one ps_never)
          pss_nil)))))), ?_⟩
    -- the row is a list
    refine ⟨_, rfl, _, _, _, true, rfl, TyOf.lst ha, kitB (by decide +kernel), _, rfl, iteF ?_⟩
    -- each a stone
    refine ⟨_, rfl, a, rfl, ⟨_, SqL.of ha⟩, for_list (K := K) (a := a) (xs := xs) (fun i σ H2 => (∃ v, σ = [some (.ref a), v, none]) ∧ H2 = H) ⟨⟨none, rfl⟩, rfl⟩ (fun i σ H2 _ ⟨_, e⟩ => e ▸ SqL.of ha) ?_ ?_⟩
    · rintro i y σ H2 hi ⟨⟨v, rfl⟩, rfl⟩
      obtain ⟨p, e1, t, rfl, e2⟩ := paired_get hx i hi
      have hh : 1 ≤ p.2 := by
        have hi' : i < r.length := (List.getElem?_eq_some_iff.mp e1).1
        have := g.high i hi'
        unfold ht at this
        rw [List.getD_eq_getElem?_getD, e1] at this
        exact this
      exact ⟨_, rfl, t, p.1, p.2, rfl, e2, _, rfl, iteNS hh ⟨⟨_, rfl⟩, rfl⟩⟩
    · rintro σ H2 ⟨⟨v, rfl⟩, rfl⟩
      -- the places rise
      refine ⟨_, rfl, a, xs, rfl, .inl (SqL.of ha), 1, (xs.length : Int), rfl, ⟨by decide, by decide, by omega, by omega⟩, for_range (fun i σ H3 => (∃ v u, σ = [some (.ref a), v, u]) ∧ H3 = H2) ⟨⟨v, none, rfl⟩, rfl⟩ ?_ ?_⟩
      · rintro i σ H3 hi ⟨⟨v, u, rfl⟩, rfl⟩
        obtain ⟨t1, x1, h1⟩ := hx.get (i := i + 1) (by omega)
        obtain ⟨t0, x0, h0⟩ := hx.get (i := i) (by omega)
        have lt : ¬ pl r (i + 1) ≤ pl r i := by have := g.rise i (i + 1) (by omega) (by omega); omega
        refine ⟨_, rfl, _, rfl, a, xs, _, _, rfl, rfl, SqL.of ha, atI_cast (j := i + 1) (by omega) x1, t1, _, 0, _, rfl, rfl, SqT.of h1, rfl, _, rfl, _, rfl, _, _, rfl, rfl, a, xs, _, _, rfl, rfl, SqL.of ha, atI_cast (j := i) (by omega) x0, t0, _, 0, _, rfl, rfl, SqT.of h0, rfl, _, _, rfl, rfl, _, rfl, ?_⟩
        rw [decide_eq_false (show ¬ (r.getD (i + 1) (0, 0)).1 ≤ (r.getD i (0, 0)).1 from lt)]
        exact iteF ⟨⟨_, _, rfl⟩, rfl⟩
      · rintro σ H3 ⟨_, rfl⟩
        exact q
theorem dec_ints {i j : Int} : decide (V.int i = V.int j) = decide (i = j) := by
  rw [dec_int, Bool.beq_eq_decide_eq]
noncomputable def spMirr : Sp := fun vs H Q _ => ∃ a r, vs = [.ref a] ∧ RowOk H a r ∧ ∀ l H', H l = none → Same H H' → RowAt H' l (mir r) → Q (.ref l) H'
theorem scMirr : FnScope ["row"] ["row"] (defScope sMirr) := ⟨rfl, rfl, rfl, by decide +kernel, rfl, by decide +kernel, by decide +kernel⟩
theorem RowV.snoc {H : Hp} {xs : List V} {r : Row} {v : V} {p : Int × Int} (h : RowV H xs r) (t : TupP H v p) : RowV H (xs ++ [v]) (r ++ [p]) := Paired.snoc h t
theorem ok_mirr {f : Addr} {fd : FuncData} (F : Fun K "mirrored" "mirrored" sMirr f fd) (B : Blt mg) (d_check_row : Dfn P w K mg base "check_row" 3 ["row"] spChkRow) : FnOk P w K mg base CX0 4 f fd ["row"] spMirr := by
  refine F.ok scMirr (fun vs H Q E h => ?_) (fun cdv A outer s H vs Q E hr h => ?_)
  · obtain ⟨a, r, rfl, _⟩ := h
    rfl
  · obtain ⟨a, r, rfl, R, q⟩ := h
    obtain ⟨⟨xs, ha, hx⟩, g, hle⟩ := id R
    have hlen := hx.length
    refine ⟨_, (pss_cons (ps_expr (pe_callD d_check_row (hr.mono (by decide)) (by rfl) (pa_cons (pv 0) pa_nil)))
      (pss_one (ps_ret (pe_comp rfl (cap := []) (own := ["place", "height"]) (CompOk.of (outer := defScope sMirr) (N := ["row"]) rfl rfl (by decide +kernel)) (pi_rev rfl B.b_reversed (pa_cons (pv 0) pa_nil)) (fun _ _ _ _ => ⟨(pg_tupK (n := 2) K rfl rfl (pgs_cons (pg_name (i := 0) (show List.Nodup (["place", "height"] : List Str) by decide +kernel) rfl (Or.inl rfl)) (pgs_cons (pg_name (i := 1) (show List.Nodup (["place", "height"] : List Str) by decide +kernel) rfl (Or.inl rfl)) pgs_nil))), pf_nil, (pe_tup (pa_cons (pe_un un_neg (pv 0)) (pa_cons (pv 1) pa_nil)))⟩))))), ?_⟩
    refine ⟨_, rfl, a, r, rfl, R, ?_⟩
    refine ⟨_, rfl, a, xs, rfl, SqL.of ha, fun D hD => ⟨fun i m ys H2 => i ≤ r.length ∧ m = r.length - i ∧ Same H H2 ∧ H2 D = some (.lst ys) ∧ RowV H2 ys ((mir r).take i), ⟨r.length, Nat.zero_le _, rfl, Same.upd hD, upd_same, .nil⟩, ?_⟩⟩
    rintro i m ys H2 ⟨hi, rfl, s2, hD2, hy⟩
    refine ⟨hD2, ?_⟩
    by_cases c : i < r.length
    · refine .inr ⟨⟨SqL.of (s2 _ _ ha), by omega⟩, ?_⟩
      rintro x H3 ⟨rfl, hx3⟩
      rw [hlen] at hx3
      obtain ⟨p, e1, t, rfl, e2⟩ := paired_get hx _ hx3
      refine ⟨t, _, rfl, SqT.of (s2 _ _ e2), rfl, _, _, rfl, _, _, rfl, rfl, ⟨rfl, rfl⟩, _, rfl, _, rfl, _, rfl, by show 2 ≤ sizeLine; decide, fun u hu => ?_⟩
      have nD : D ≠ u := ne_of_none hD2 hu
      have ylen : ys.length = i := by rw [hy.length, List.length_take, mir_length]; omega
      refine ⟨by rw [upd_ne nD]; exact hD2, Nat.lt_of_lt_of_le (by rw [ylen]; omega : ys.length < 1001) (by rw [sizeLine_eq]; decide), r.length - (i + 1), by omega, by omega, rfl, ?_, upd_same, ?_⟩
      · exact (s2.trans (Same.upd hu)).upd' hD
      · have e3 : (mir r).take (i + 1) = (mir r).take i ++ [(-p.1, p.2)] := by
          rw [List.take_add_one, mir_at c, e1]
          rfl
        rw [e3]
        refine RowV.snoc ?_ ⟨u, rfl, by rw [upd_ne nD.symm, upd_same]⟩
        refine Paired.mapP hy fun v z ⟨t', z1, z2⟩ => ⟨t', z1, ?_⟩
        have n1 : t' ≠ D := fun e => by rw [e, hD2] at z2; cases z2
        rw [upd_ne n1, upd_ne (ne_of_none z2 hu)]
        exact z2
    · have e : i = r.length := by omega
      subst e
      refine .inl ⟨by show xs.length ≤ _; omega, ?_⟩
      rw [List.take_of_length_le (by rw [mir_length]; exact Nat.le_refl _)] at hy
      exact q D H2 hD s2 ⟨ys, hD2, hy⟩
noncomputable def spFirst : Sp := fun vs H Q _ => ∃ a r s, vs = [.ref a, .int ((s : Nat) : Int)] ∧ RowAt H a r ∧ r.length ≤ 1000 ∧ s < r.length ∧ Q (.int (fs r s)) H
theorem scFirst : FnScope ["row", "stone", "reach", "k"] ["row", "stone"] (defScope sFirst) := ⟨rfl, rfl, rfl, by decide +kernel, rfl, by decide +kernel, by decide +kernel⟩
theorem run_step {r : Row} {k : Nat} {c : Int} (hk : k < r.length) (h : pl r k ≤ c) : Fm.run c (r.drop k) = Fm.run (max c (pl r k + ht r k)) (r.drop (k + 1)) + 1 := by
  have e : r.drop k = (pl r k, ht r k) :: r.drop (k + 1) := by
    rw [List.drop_eq_getElem_cons hk]
    congr 1
    unfold pl ht
    rw [List.getD_eq_getElem?_getD, List.getElem?_eq_getElem hk]
    rfl
  rw [e, Fm.run, if_pos h]
theorem run_stop {r : Row} {k : Nat} {c : Int} (h : ¬ (k < r.length ∧ pl r k ≤ c)) : Fm.run c (r.drop k) = 0 := by
  by_cases hk : k < r.length
  · have e : r.drop k = (pl r k, ht r k) :: r.drop (k + 1) := by
      rw [List.drop_eq_getElem_cons hk]
      congr 1
      unfold pl ht
      rw [List.getD_eq_getElem?_getD, List.getElem?_eq_getElem hk]
      rfl
    rw [e, Fm.run, if_neg fun z => h ⟨hk, z⟩]
  · rw [List.drop_eq_nil_of_le (by omega)]
    rfl
theorem max_if (c d : Int) : (if d > c then d else c) = max c d := by
  split <;> omega
theorem ok_first {f : Addr} {fd : FuncData} (F : Fun K "first_standing" "first_standing" sFirst f fd) (B : Blt mg) : FnOk P w K mg base CX0 1 f fd ["row", "stone"] spFirst := by
  refine F.ok scFirst (fun vs H Q E h => ?_) (fun cdv A outer s H vs Q E hr h => ?_)
  · obtain ⟨a, r, s, rfl, _⟩ := h
    rfl
  · obtain ⟨a, r, st, rfl, ⟨xs, ha, hx⟩, hle, hs, q⟩ := h
    have hlen := hx.length
    obtain ⟨t, x0, h0⟩ := hx.get hs
    refine ⟨_, (pss_cons (ps_set (i := 2) scFirst.nd rfl (Or.inl rfl) (pe_op op_add (pe_ix ix_tup (pe_ix ix_list (pv 0) (pv 1) (fun _ _ => rfl)) pe_int (fun _ _ => rfl)) (pe_ix ix_tup (pe_ix ix_list (pv 0) (pv 1) (fun _ _ => rfl)) pe_int (fun _ _ => rfl))))
      (pss_cons (ps_set (i := 3) scFirst.nd rfl (Or.inl rfl) (pe_op op_add (pv 1) pe_int))
      (pss_cons (ps_while PassesOwn.never (PW.pt (pw_and (pt_cmpR op_lt (pv 3) (pe_callB call_len_seq (by rfl) B.b_len boot_len (pa_cons (pv 0) pa_nil)) (nomark _)) (pw_and1 (pt_cmpR op_le (pe_ix ix_tup (pe_ix ix_list (pv 0) (pv 3) (fun _ _ => rfl)) pe_int (fun _ _ => rfl)) (pv 2) (nomark _)))))
        (pss_cons (ps_set (i := 2) scFirst.nd rfl (Or.inl rfl) (pe_callB (call_max2 rfl) (by rfl) B.b_max boot_max (pa_cons (pv 2) (pa_cons (pe_op op_add (pe_ix ix_tup (pe_ix ix_list (pv 0) (pv 3) (fun _ _ => rfl)) pe_int (fun _ _ => rfl)) (pe_ix ix_tup (pe_ix ix_list (pv 0) (pv 3) (fun _ _ => rfl)) pe_int (fun _ _ => rfl))) pa_nil))))
        (pss_one (ps_aug (i := 3) scFirst.nd rfl (Or.inl rfl) pe_int ip_add))))
      (pss_one (ps_ret (pv 3)))))), ?_⟩
    refine ⟨_, rfl, _, rfl, a, xs, _, _, rfl, rfl, SqL.of ha, atI_nat x0, t, _, 0, _, rfl, rfl, SqT.of h0, rfl, _, rfl, _, rfl, a, xs, _, _, rfl, rfl, SqL.of ha, atI_nat x0, t, _, 1, _, rfl, rfl, SqT.of h0, rfl, _, _, rfl, rfl, ?_⟩
    refine ⟨_, rfl, _, _, rfl, rfl, ?_⟩
    -- while k < len(row) and row[k][0] <= reach
    refine ⟨fun m σ H2 => H2 = H ∧ ∃ (k : Nat) (c : Int), σ = [some (.ref a), some (.int (st : Int)), some (.int c), some (.int (k : Int))] ∧ k ≤ r.length ∧ m = r.length - k ∧ k + Fm.run c (r.drop k) = fs r st, ⟨_, rfl, st + 1, pl r st + ht r st, rfl, hs, rfl, rfl⟩, ?_⟩
    rintro m σ H2 ⟨rfl, k, c, rfl, hk, rfl, hf⟩
    refine ⟨_, rfl, _, rfl, a, xs, rfl, .inl (SqL.of ha), _, _, rfl, rfl, _, rfl, ?_⟩
    by_cases c1 : k < r.length
    · rw [decide_eq_true (show (k : Int) < (xs.length : Int) by omega)]
      obtain ⟨u, x1, h1⟩ := hx.get c1
      refine iteT ⟨_, rfl, _, rfl, a, xs, _, _, rfl, rfl, SqL.of ha, atI_nat x1, u, _, 0, _, rfl, rfl, SqT.of h1, rfl, _, rfl, _, _, rfl, rfl, _, rfl, ?_⟩
      by_cases c2 : pl r k ≤ c
      · rw [decide_eq_true (show (r.getD k (0, 0)).1 ≤ c from c2)]
        refine iteT ⟨fun σ H3 => H3 = H2 ∧ σ = [some (.ref a), some (.int (st : Int)), some (.int (max c (pl r k + ht r k))), some (.int ((k : Int) + 1))], ?_, ?_⟩
        · rintro σ' H' ⟨rfl, rfl⟩
          refine ⟨r.length - (k + 1), by omega, rfl, k + 1, _, rfl, c1, rfl, ?_⟩
          rw [run_step c1 c2] at hf
          omega
        · refine ⟨_, rfl, _, rfl, _, rfl, a, xs, _, _, rfl, rfl, SqL.of ha, atI_nat x1, u, _, 0, _, rfl, rfl, SqT.of h1, rfl, _, rfl, _, rfl, a, xs, _, _, rfl, rfl, SqL.of ha, atI_nat x1, u, _, 1, _, rfl, rfl, SqT.of h1, rfl, _, _, rfl, rfl, ?_⟩
          refine ⟨_, _, rfl, ?_⟩
          refine ⟨_, rfl, _, _, rfl, rfl, rfl, ?_⟩
          show [some (V.ref a), some (V.int (st : Int)), some (V.int (if pl r k + ht r k > c then pl r k + ht r k else c)), some (V.int ((k : Int) + 1))] = _
          rw [max_if]
      · rw [decide_eq_false (show ¬ (r.getD k (0, 0)).1 ≤ c from c2)]
        refine iteF ?_
        have := run_stop (r := r) (k := k) (c := c) fun z => c2 z.2
        rw [this] at hf
        refine ⟨_, rfl, ?_⟩
        rw [show ((k : Nat) : Int) = ((fs r st : Nat) : Int) by omega]
        exact q
    · rw [decide_eq_false (show ¬ (k : Int) < (xs.length : Int) by omega)]
      refine iteF (iteF ?_)
      have := run_stop (r := r) (k := k) (c := c) fun z => c1 z.1
      rw [this] at hf
      refine ⟨_, rfl, ?_⟩
      rw [show ((k : Nat) : Int) = ((fs r st : Nat) : Int) by omega]
      exact q
end
end Fk

set_option genSizeOf false
set_option genInjectivity false
namespace Fk
open PySem L2 Fm PyProof.Rows
noncomputable def nats (l : List Nat) : List V := l.map fun (n : Nat) => V.int (n : Int)
theorem rng_nats (s n : Nat) : (rngL (s : Int) 1 n).map V.int = nats (List.range' s n) := by
  unfold rngL nats
  rw [List.map_map, List.range'_eq_map_range, List.map_map]
  apply List.map_congr_left
  intro i _
  show V.int ((s : Int) + (i : Int) * 1) = V.int ((s + i : Nat) : Int)
  congr 1
  omega
theorem small_ok {a b : Int} (h1 : -(2 ^ 40) ≤ a) (h2 : a < 2 ^ 40) (h3 : -(2 ^ 40) ≤ b) (h4 : b < 2 ^ 40) : Builtin.Range.small a b 1 = true := small_one (by omega) (by omega) (by omega) (by omega)
theorem size_ok {a b : Int} {n : Nat} (h : (n : Int) = b - a ∨ (n = 0 ∧ b ≤ a)) : Builtin.Range.rangeSize a b 1 = (n : Int) := by
  rw [rangeSize_one]
  split <;> omega
theorem len_ok {n : Nat} (h : n ≤ 1000) : n < sizeLine := small1000 h
theorem two_ok : 2 ≤ sizeLine := by decide
theorem Good.snoc {r : Row} (g : Good r) {p h : Int} (hp : ∀ i : Nat, i < r.length → pl r i < p) (hh : 1 ≤ h) : Good (r ++ [(p, h)]) where
  rise := fun i j h1 h2 => by
    rw [List.length_append, List.length_singleton] at h2
    have ei : pl (r ++ [(p, h)]) i = pl r i := by
      unfold pl
      rw [List.getD_eq_getElem?_getD, List.getD_eq_getElem?_getD, List.getElem?_append_left (by omega)]
    rw [ei]
    by_cases hj : j < r.length
    · have ej : pl (r ++ [(p, h)]) j = pl r j := by
        unfold pl
        rw [List.getD_eq_getElem?_getD, List.getD_eq_getElem?_getD, List.getElem?_append_left hj]
      rw [ej]
      exact g.rise i j h1 hj
    · have e : j = r.length := by omega
      subst e
      have ej : pl (r ++ [(p, h)]) r.length = p := by
        unfold pl
        rw [List.getD_eq_getElem?_getD, List.getElem?_append_right (Nat.le_refl _)]
        simp
      rw [ej]
      exact hp i (by omega)
  high := fun i h1 => by
    rw [List.length_append, List.length_singleton] at h1
    by_cases hi : i < r.length
    · have ei : ht (r ++ [(p, h)]) i = ht r i := by
        unfold ht
        rw [List.getD_eq_getElem?_getD, List.getD_eq_getElem?_getD, List.getElem?_append_left hi]
      rw [ei]
      exact g.high i hi
    · have e : i = r.length := by omega
      subst e
      have ej : ht (r ++ [(p, h)]) r.length = h := by
        unfold ht
        rw [List.getD_eq_getElem?_getD, List.getElem?_append_right (Nat.le_refl _)]
        simp
      rw [ej]
      exact hh
theorem pl_snoc_lt {r : Row} {p h : Int} {i : Nat} (hi : i < r.length) : pl (r ++ [(p, h)]) i = pl r i := by
  unfold pl
  rw [List.getD_eq_getElem?_getD, List.getD_eq_getElem?_getD, List.getElem?_append_left hi]
theorem pl_snoc_eq {r : Row} {p h : Int} : pl (r ++ [(p, h)]) r.length = p := by
  unfold pl
  rw [List.getD_eq_getElem?_getD, List.getElem?_append_right (Nat.le_refl _)]
  simp
noncomputable def spLaw (K : PySem.W.Frag) : Sp := fun vs H Q _ => ∃ (a : Addr) (ns : List Int), vs = [.ref a] ∧ SqL K H a (ns.map V.int) ∧ ns.length ≤ 63 ∧ ∀ H', Q (.bl true) H'
theorem cut_from (xs : List V) (n : Nat) (h : n ≤ xs.length) : cutV xs (some (n : Int)) none = xs.drop n := by
  unfold cutV
  have e1 : HT.sIx xs.length 0 (some (n : Int)) = n := by
    unfold HT.sIx
    simp only [if_neg (show ¬ (n : Int) < 0 by omega), Int.toNat_natCast]
    omega
  have e2 : HT.sIx xs.length xs.length none = xs.length := rfl
  rw [e1, e2, ← List.length_drop, List.take_length]
theorem zero_ok : 0 ≤ sizeLine := Nat.zero_le _
end Fk

set_option genSizeOf false
set_option genInjectivity false
namespace Fk
open PySem L2 Fm PyProof.Rows
structure Kc (K : PySem.W.Frag) (mg : Str → Option Value) (cA cC cS cF cR cH : Addr) : Prop where
  gA : mg "Answer" = some (.ref cA)
  gC : mg "Chain" = some (.ref cC)
  gS : mg "Stands" = some (.ref cS)
  gF : mg "Fewest" = some (.ref cF)
  gR : mg "Rights" = some (.ref cR)
  gH : mg "Higher" = some (.ref cH)
  lR : Cls K cR
  lF : Cls K cF
  nR1 : NoAttr K cR "stones"
  nF1 : NoAttr K cF "pushes"
  nF2 : NoAttr K cF "stones"
  kRA : PySem.W.kitOne K (.ref cR) (.ref cA) = some true
  kRC : PySem.W.kitOne K (.ref cR) (.ref cC) = some false
  kRS : PySem.W.kitOne K (.ref cR) (.ref cS) = some false
  kRF : PySem.W.kitOne K (.ref cR) (.ref cF) = some false
  kRR : PySem.W.kitOne K (.ref cR) (.ref cR) = some true
  kRH : PySem.W.kitOne K (.ref cR) (.ref cH) = some false
  kFA : PySem.W.kitOne K (.ref cF) (.ref cA) = some true
  kFC : PySem.W.kitOne K (.ref cF) (.ref cC) = some false
  kFS : PySem.W.kitOne K (.ref cF) (.ref cS) = some false
  kFF : PySem.W.kitOne K (.ref cF) (.ref cF) = some true
  kFR : PySem.W.kitOne K (.ref cF) (.ref cR) = some false
  kFH : PySem.W.kitOne K (.ref cF) (.ref cH) = some false
  oR : PySem.W.findIn K (.ref cR) "__class__" = some (some (.builtin "object.__class__"))
  mR : PySem.W.mroIn K cR (.type "object") = some true
  oF : PySem.W.findIn K (.ref cF) "__class__" = some (some (.builtin "object.__class__"))
  mF : PySem.W.mroIn K cF (.type "object") = some true
  hn : PySem.W.specialIn K (.builtin "object.__class__") "__get__" = some (some (.builtin "getset_descriptor.__get__"))
  ht : PySem.W.takesIn K (.builtin "object.__class__") = some true
theorem Kc.tyR {K : PySem.W.Frag} {mg : Str → Option Value} {cA cC cS cF cR cH : Addr} (T : Kc K mg cA cC cS cF cR cH) {H : Hp} {p dx : Addr} {fs : List (Str × V)} (e : H p = some (.ins cR dx fs)) : TyOf K H (.ref p) (.ref cR) := TyOf.ins e T.lR T.oR T.hn T.ht T.mR
theorem kit_of {K : PySem.W.Frag} {C D : Addr} {b : Bool} (h1 : PySem.W.isClsIn K D = true) (h2 : PySem.W.typeIn K (.ref D) = some (.type "type")) (h3 : PySem.W.mroIn K C (.ref D) = some b) (hs : PySem.W.mroIn K C (.ref C) = some true) : PySem.W.kitOne K (.ref C) (.ref D) = some b := by
  unfold PySem.W.kitOne
  by_cases e : C = D
  · subst e
    rw [h3] at hs
    rw [if_pos (by simp)]
    exact hs.symm
  · have e2 : ((Value.ref C) == (Value.ref D)) = false := by
      rw [beq_eq_false_iff_ne]
      intro z
      exact e (Value.ref.inj z)
    rw [if_neg (by rw [e2]; exact Bool.false_ne_true)]
    unfold PySem.W.kitCls
    unfold PySem.W.isClsIn at h1
    show (if ((PySem.W.clsIn K D).isSome && PySem.W.typeIn K (.ref D) == some (.type "type")) = true then PySem.W.subIn K (.ref C) (.ref D) else none) = some b
    rw [if_pos (by rw [h1, h2]; decide +kernel)]
    exact h3
end Fk

set_option genSizeOf false
set_option genInjectivity false
namespace Fm
noncomputable def unr (r : Row) (x : Nat) : Bool := (List.range x).all fun i => decide (pl r i + ht r i < pl r x)
theorem unr_iff {r : Row} {x : Nat} : unr r x = true ↔ ∀ i, i < x → pl r i + ht r i < pl r x := by
  unfold unr
  rw [List.all_eq_true]
  constructor
  · intro h i hi
    exact of_decide_eq_true (h i (List.mem_range.mpr hi))
  · intro h i hi
    exact decide_eq_true (h i (List.mem_range.mp hi))
noncomputable def unkTo (r : Row) (k : Nat) : List Int := ((List.range k).filter (unr r)).map Int.ofNat
noncomputable def unk (r : Row) : List Int := unkTo r r.length
theorem unkTo_yes {r : Row} {k : Nat} (h : unr r k = true) : unkTo r (k + 1) = unkTo r k ++ [(k : Int)] := by
  unfold unkTo
  rw [List.range_succ, List.filter_append, List.map_append, List.filter_cons_of_pos h]
  rfl
theorem unkTo_no {r : Row} {k : Nat} (h : ¬ unr r k = true) : unkTo r (k + 1) = unkTo r k := by
  unfold unkTo
  rw [List.range_succ, List.filter_append, List.map_append, List.filter_cons_of_neg h]
  simp
theorem unkTo_skip {r : Row} {k : Nat} : ∀ m, (∀ j, k ≤ j → j < k + m → ¬ unr r j = true) → unkTo r (k + m) = unkTo r k
  | 0, _ => rfl
  | m + 1, h => by
    rw [← Nat.add_assoc, unkTo_no (h (k + m) (by omega) (by omega))]
    exact unkTo_skip m fun j h1 h2 => h j h1 (by omega)
theorem unk_step {r : Row} (g : Good r) {k : Nat} (hk : k < r.length) (h : unr r k = true) : unkTo r k ++ [(k : Int)] = unkTo r (fs r k) ∧ (fs r k < r.length → unr r (fs r k) = true) := by
  have hl := lt_fs r k
  constructor
  · rw [← unkTo_yes h, show fs r k = k + 1 + (fs r k - (k + 1)) by omega]
    refine (unkTo_skip _ fun j h1 h2 z => ?_).symm
    obtain ⟨i, _, i2, i3⟩ := fs_in (r := r) (s := k) (j := j) (by omega) (by omega)
    have := unr_iff.mp z i i2
    omega
  · intro hf
    refine unr_iff.mpr fun i hi => ?_
    by_cases c : k ≤ i
    · exact fs_out hk hf i c hi
    · have := unr_iff.mp h i (by omega)
      have := g.rise k (fs r k) hl hf
      omega
theorem unr_zero (r : Row) : unr r 0 = true := rfl
theorem cover {r : Row} (g : Good r) : ∀ (n x : Nat), x ≤ n → x < r.length → ∃ s, s ≤ x ∧ x < fs r s ∧ unr r s = true
  | n, x, hn, hx => by
    by_cases c : unr r x = true
    · exact ⟨x, Nat.le_refl _, lt_fs r x, c⟩
    · have : ∃ i, i < x ∧ ¬ pl r i + ht r i < pl r x := by
        by_cases d : ∃ i, i < x ∧ ¬ pl r i + ht r i < pl r x
        · exact d
        · exfalso
          refine c (unr_iff.mpr fun i hi => ?_)
          by_cases e : pl r i + ht r i < pl r x
          · exact e
          · exact absurd ⟨i, hi, e⟩ d
      obtain ⟨i, i1, i2⟩ := this
      match n, hn with
      | 0, hn => omega
      | n + 1, hn =>
        obtain ⟨s, s1, s2, s3⟩ := cover g n i (by omega) (by omega)
        refine ⟨s, by omega, ?_, s3⟩
        by_cases d : x < fs r s
        · exact d
        · exfalso
          have hf : fs r s < r.length := by omega
          have h1 := fs_out (r := r) (s := s) (by omega) hf i s1 s2
          by_cases e : fs r s = x
          · rw [e] at h1; exact i2 h1
          · have := g.rise (fs r s) x (by omega) hx; omega
theorem mem_unk {r : Row} {x : Int} : x ∈ unk r ↔ ∃ k : Nat, x = (k : Int) ∧ k < r.length ∧ unr r k = true := by
  unfold unk unkTo
  rw [List.mem_map]
  constructor
  · rintro ⟨k, hk, rfl⟩
    obtain ⟨h1, h2⟩ := List.mem_filter.mp hk
    exact ⟨k, rfl, List.mem_range.mp h1, h2⟩
  · rintro ⟨k, rfl, h1, h2⟩
    exact ⟨k, List.mem_filter.mpr ⟨List.mem_range.mpr h1, h2⟩, rfl⟩
theorem unk_rise (r : Row) : (unk r).Pairwise (· < ·) := by
  unfold unk unkTo
  rw [List.pairwise_map]
  exact (List.Pairwise.filter _ (List.pairwise_lt_range (n := r.length))).imp fun h => Int.ofNat_lt.mpr h
theorem unk_len (r : Row) : (unk r).length ≤ r.length := by
  unfold unk unkTo
  rw [List.length_map]
  exact Nat.le_trans (List.length_filter_le _ _) (by rw [List.length_range]; exact Nat.le_refl _)
theorem unkTo_len (r : Row) (k : Nat) : (unkTo r k).length ≤ k := by
  unfold unkTo
  rw [List.length_map]
  exact Nat.le_trans (List.length_filter_le _ _) (by rw [List.length_range]; exact Nat.le_refl _)
theorem unk_of {r : Row} {ss : List Int} (h1 : ss.Pairwise (· < ·)) (h2 : ∀ s ∈ ss, ∃ k : Nat, s = (k : Int) ∧ k < r.length ∧ unr r k = true)
    (h3 : ∀ x, x < r.length → ∃ k : Nat, (k : Int) ∈ ss ∧ k ≤ x ∧ x < fs r k) : ss = unk r := by
  refine sorted_ext h1 (unk_rise r) fun x => ?_
  rw [mem_unk]
  constructor
  · exact h2 x
  · rintro ⟨k, rfl, hk, hu⟩
    obtain ⟨s, s1, s2, s3⟩ := h3 k hk
    by_cases e : s = k
    · rw [← e]; exact s1
    · obtain ⟨i, _, i2, i3⟩ := fs_in (r := r) (s := s) (j := k) (by omega) s3
      have := unr_iff.mp hu i i2
      omega
theorem cnt_mono (r : Row) {k : Nat} : ∀ m, (unkTo r k).length ≤ (unkTo r (k + m)).length
  | 0 => Nat.le_refl _
  | m + 1 => by
    have h := cnt_mono r (k := k) m
    rw [← Nat.add_assoc]
    by_cases c : unr r (k + m) = true
    · rw [unkTo_yes c, List.length_append]; omega
    · rw [unkTo_no c]; exact h
theorem cnt_le (r : Row) {k l : Nat} (h : k ≤ l) : (unkTo r k).length ≤ (unkTo r l).length := by
  have := cnt_mono r (k := k) (l - k)
  rw [show k + (l - k) = l by omega] at this
  exact this
theorem cnt_more {r : Row} {s t x : Nat} (h1 : s < x) (h2 : x ≤ t) (h : unr r x = true) : (unkTo r (s + 1)).length + 1 ≤ (unkTo r (t + 1)).length := by
  have a := cnt_le r (k := s + 1) (l := x) h1
  have b := cnt_le r (k := x + 1) (l := t + 1) (by omega)
  rw [unkTo_yes h, List.length_append] at b
  simp only [List.length_cons, List.length_nil] at b
  omega
structure Few (r : Row) (m s : Nat) : Prop where
  le : m ≤ (unk r).length
  in_ : s < r.length → m + 1 ≤ (unkTo r (s + 1)).length
theorem Few.start (r : Row) : Few r 0 0 := ⟨Nat.zero_le _, fun _ => by
  rw [unkTo_yes (unr_zero r), List.length_append]; exact Nat.le_add_left _ _⟩
theorem Few.next {r : Row} (g : Good r) {m s t : Nat} (F : Few r m s) (hs : s < r.length) (ht : s < t) (hf : ∀ j, j ≤ s → fs r j ≤ t) : Few r (m + 1) t := by
  refine ⟨Nat.le_trans (F.in_ hs) (cnt_le r hs), fun h => ?_⟩
  have a := F.in_ hs
  obtain ⟨x, x1, x2, x3⟩ := cover g t t (Nat.le_refl _) h
  have : s < x := by
    by_cases c : s < x
    · exact c
    · have := hf x (by omega); omega
  have := cnt_more (r := r) (s := s) (t := t) this x1 x3
  omega
theorem fs_mono {r : Row} (g : Good r) {k j : Nat} (hk : k < r.length) (h1 : k ≤ j) (h2 : j < fs r k) : fs r j ≤ fs r k := by
  have hl := fs_le hk
  by_cases c : fs r j ≤ fs r k
  · exact c
  · exfalso
    obtain ⟨i, i1, i2, i3⟩ := fs_in (r := r) (s := j) (j := fs r k) h2 (by omega)
    have hj := fs_le (r := r) (s := j) (by omega)
    have := fs_out hk (by omega) i (by omega) i2
    omega
structure Walk (r : Row) (k e : Nat) : Prop where
  ge : k ≤ e
  fall : e < fs r k
  out : e + 1 < r.length → ∀ i, k < i → i ≤ e → pl r i + ht r i < pl r (e + 1)
theorem Walk.start (r : Row) (k : Nat) : Walk r k k := ⟨Nat.le_refl _, lt_fs r k, fun _ i h1 h2 => by omega⟩
theorem Walk.next {r : Row} (g : Good r) {k e : Nat} (W : Walk r k e) (h : e + 1 < r.length) (hp : pl r (e + 1) ≤ pl r k + ht r k) : Walk r k (fs r (e + 1) - 1) := by
  obtain ⟨w1, w2, w3⟩ := W
  have hk : k < r.length := by omega
  have f1 : e + 1 < fs r k := by
    by_cases c : e + 1 < fs r k
    · exact c
    · have e1 : fs r k = e + 1 := by omega
      have := fs_out hk (by omega) k (Nat.le_refl _) (lt_fs r k)
      rw [e1] at this
      omega
  have f2 := fs_mono g hk (by omega : k ≤ e + 1) f1
  have f3 := lt_fs r (e + 1)
  refine ⟨by omega, by omega, fun hn i i1 i2 => ?_⟩
  rw [show fs r (e + 1) - 1 + 1 = fs r (e + 1) by omega] at hn ⊢
  by_cases c : e + 1 ≤ i
  · exact fs_out h hn i c (by omega)
  · have a := w3 h i i1 (by omega)
    have := g.rise (e + 1) (fs r (e + 1)) f3 hn
    omega
theorem Walk.done {r : Row} {k e : Nat} (W : Walk r k e) (hk : k < r.length) (h : e + 1 < r.length → ¬ pl r (e + 1) ≤ pl r k + ht r k) : fs r k = e + 1 := by
  obtain ⟨w1, w2, w3⟩ := W
  have hl := fs_le hk
  by_cases c : e + 1 < fs r k
  · exfalso
    obtain ⟨i, i1, i2, i3⟩ := fs_in (r := r) (s := k) (j := e + 1) (by omega) c
    have hn : e + 1 < r.length := by omega
    by_cases d : i = k
    · subst d; exact h hn i3
    · have := w3 hn i (by omega) (by omega); omega
  · omega
end Fm

set_option genSizeOf false
set_option genInjectivity false
namespace L2
open PySem PySem.Spec PyProof.Rows
theorem small_bk {a : Int} (h1 : -1 ≤ a) (h2 : a ≤ 1000) : Builtin.Range.small a (-1) (-1) = true := by
  unfold Builtin.Range.small Builtin.Range.rangeSize
  rw [if_neg (by decide)]
  split <;> simp [Builtin.Range.rangeFitsLong] <;> omega
theorem size_bk {a : Int} (h : -1 ≤ a) : Builtin.Range.rangeSize a (-1) (-1) = a + 1 := by
  unfold Builtin.Range.rangeSize
  rw [if_neg (by decide), show (- -1 : Int) = 1 from rfl, Int.ediv_one]
  split <;> omega
noncomputable def Itd (lo : Int) (n : Nat) : It := ⟨fun i _ => i < n, fun i H x H' => H' = H ∧ x = .int (lo - i), fun i _ => n ≤ i⟩
theorem turn_down {P : Program} {w : World} {K : PySem.W.Frag} {tg : Expr} (it : Addr) (lo : Int) (n : Nat) : Turn P w K tg (Itd lo n) [it] it (fun i h => IsRangeIter h it (lo + (i : Nat) * (-1)) ((n : Int) - (i : Nat)) (-1)) where
  mem := List.mem_singleton.mpr rfl
  obj := fun i h st b hb => by
    rw [List.mem_singleton.mp hb]
    exact ⟨_, st, fun v z => nomatch (show Data.fields _ = Data.cell v from z)⟩
  keep := fun i h h' st k => k it (List.mem_singleton.mpr rfl) _ st
  item := by
    intro X hP hw hK hc i pins s σ H E I hf st hg
    subst hP hw hK
    obtain ⟨f0, f1, f2, f3, f4, f5⟩ := hf it (List.mem_singleton.mpr rfl)
    have W := Walks.range (prog := X.prog) (w := X.w) (I.ok.hd hc) it lo (-1) n
    refine W.item i s _ _ hg st fun v h' tk hv st' kk => ?_
    obtain ⟨t, rfl⟩ := hv
    have I1 : Inv X pins σ H { s with heap := h', toks := tk } := I.turned (fun b o hb e => kk b o (fun z => hb (List.mem_singleton.mp z)) e) f0 f1 f3 f4 f5
    refine ⟨_, rfl, go_of (s := { s with heap := h', toks := tk }) (n := "range_iterator") st' rfl rfl (by decide) ⟨.int (lo - i), H, I1, ⟨t, ?_⟩, ⟨rfl, rfl⟩, st', fun b hb => (hf b hb).1⟩⟩
    rw [Int.mul_neg_one, Int.sub_eq_add_neg]
  done := by
    intro X hP hw hK hc i pins s σ H E I hf st hg
    subst hP hw hK
    obtain ⟨f0, f1, f2, f3, f4, f5⟩ := hf it (List.mem_singleton.mpr rfl)
    exact wpAny_pyNext_range_end (I.ok.hd hc) st (by have : n ≤ i := hg; omega) fun h' eb => ⟨rfl, I.turned (t' := s.toks) (fun b o hb e => eb b o hb e) f0 f1 f3 f4 f5⟩
  self := fun _ _ _ _ _ st h => wpAny_pyIter_rangeiter st h
noncomputable def iDown (ta : TA) : TI := fun σ H R => ta σ H fun vs H1 => ∃ n : Nat, vs = [.int ((n : Int) - 1), .int (-1), .int (-1)] ∧ n ≤ 1000 ∧ R (Itd ((n : Int) - 1) n) H1
section
variable {X : Cx} {tg : Expr}
theorem pi_down {a b c : Expr} {ta : TA} {p pos : Pos} (hg : Gl X "range") (hm : X.mg "range" = none) (ha : PA X [a, b, c] ta) (hs : starEach [a, b, c] X.env = [(false, eval a X.env), (false, eval b X.env), (false, eval c X.env)] := by rfl)
    (hs2 : starEach [b, c] X.env = [(false, eval b X.env), (false, eval c X.env)] := by rfl) : PI X tg (.Call (.Name "range" p) [a, b, c] [] pos) (iDown ta) := by
  intro pins s σ H R I h
  refine Call_ (ld_blt I hg hm boot_range (PyProof.Rows.callWith_type1 (thn (ha pos pins s σ H _ I h) fun us s1 ⟨vs, H1, I1, r1, q1⟩ => ?_) (by rw [hs, hs2]) (by rw [hs2]; rfl)))
  obtain ⟨n, e, hn, q⟩ := q1
  subst e
  cases r1 with
  | cons r rr =>
    cases rr with
    | cons r' rr =>
      cases rr with
      | cons r'' rr =>
        cases rr
        obtain ⟨t, rfl⟩ := r
        obtain ⟨t', rfl⟩ := r'
        obtain ⟨t'', rfl⟩ := r''
        refine call_range_3 (by decide) ?_ (.inl (PyProof.noPylong_small (by omega)))
        refine wpAny_pyIter_range (IsRange.new ..) (small_bk (by omega) (by omega)) ?_
        generalize hO : ({ cls := .type "range", data := .fields #[.int ((n : Int) - 1) t, .int (-1) t', .int (-1) t''] } : Obj) = O
        have I2 : Inv X pins σ H1 { s1 with heap := s1.heap.push O, toks := s1.toks } := I1.kept fun b o e => Heap.get?_push_of_some _ e
        refine ⟨(s1.heap.push O).objs.size, [(s1.heap.push O).objs.size], _, _, H1, rfl, I2.kept (t' := s1.toks) fun b o e => Heap.get?_push_of_some _ e, turn_down _ ((n : Int) - 1) n, ?_, fun b hb => ?_, q⟩
        · have e1 : (n : Int) - 1 + ((0 : Nat) : Int) * (-1) = (n : Int) - 1 := by omega
          have e2 : (n : Int) - ((0 : Nat) : Int) = Builtin.Range.rangeSize ((n : Int) - 1) (-1) (-1) := by rw [size_bk (by omega)]; omega
          show IsRangeIter _ _ ((n : Int) - 1 + ((0 : Nat) : Int) * (-1)) ((n : Int) - ((0 : Nat) : Int)) (-1)
          rw [e1, e2]
          exact Heap.get?_push_size _ rfl
        · rw [List.mem_singleton.mp hb]
          exact I2.fpOk (Nat.le_refl _) (I2.hok.fresh (Nat.le_refl _))
end
theorem for_its {J : It} {n : Nat} {y : Nat → V} {g : TG} {tb : TS} {D : Ends} {σ : St} {H : Hp} (Pv : Nat → St → Hp → Prop) (hgo : ∀ i σ H, i < n → Pv i σ H → J.go i H) (hst : ∀ σ H, Pv n σ H → J.stop n H) (hy : ∀ i H x H', i < n → J.yld i H x H' → H' = H ∧ x = y i) (h0 : Pv 0 σ H)
    (hs : ∀ i σ H, i < n → Pv i σ H → g (y i) σ H fun σ2 H2 => tb { D with nx := Pv (i + 1), ct := Pv (i + 1), bk := D.nx } σ2 H2) (hd : ∀ σ H, Pv n σ H → D.nx σ H) :
    ∃ W : Nat → Nat → St → Hp → Prop, (∃ m, W 0 m σ H) ∧ ∀ i m σ H, W i m σ H →
      (J.stop i H ∧ D.nx σ H) ∨ (J.go i H ∧ ∃ N : St → Hp → Prop, (∀ σ' H', N σ' H' → ∃ m', m' < m ∧ W (i + 1) m' σ' H') ∧ ∀ x H', J.yld i H x H' → g x σ H' fun σ2 H2 => tb { D with nx := N, ct := N, bk := D.nx } σ2 H2) := by
  refine ⟨fun i m σ H => m = n - i ∧ i ≤ n ∧ Pv i σ H, ⟨n, rfl, Nat.zero_le _, h0⟩, ?_⟩
  rintro i m σ H ⟨rfl, hi, p⟩
  by_cases hlt : i < n
  · refine .inr ⟨hgo i σ H hlt p, Pv (i + 1), fun σ' H' p' => ⟨n - (i + 1), by omega, rfl, hlt, p'⟩, fun x H' z => ?_⟩
    obtain ⟨e1, e2⟩ := hy i H x H' hlt z
    rw [e1, e2]
    exact hs i σ H hlt p
  · have e : i = n := Nat.le_antisymm hi (Nat.not_lt.mp hlt)
    rw [e] at p ⊢
    exact .inl ⟨hst σ H p, hd σ H p⟩
theorem for_down {lo : Int} {n : Nat} {g : TG} {tb : TS} {D : Ends} {σ : St} {H : Hp} (Pv : Nat → St → Hp → Prop) (h0 : Pv 0 σ H)
    (hs : ∀ i σ H, i < n → Pv i σ H → g (.int (lo - i)) σ H fun σ2 H2 => tb { D with nx := Pv (i + 1), ct := Pv (i + 1), bk := D.nx } σ2 H2) (hd : ∀ σ H, Pv n σ H → D.nx σ H) :
    ∃ W : Nat → Nat → St → Hp → Prop, (∃ m, W 0 m σ H) ∧ ∀ i m σ H, W i m σ H →
      ((Itd lo n).stop i H ∧ D.nx σ H) ∨ ((Itd lo n).go i H ∧ ∃ N : St → Hp → Prop, (∀ σ' H', N σ' H' → ∃ m', m' < m ∧ W (i + 1) m' σ' H') ∧ ∀ x H', (Itd lo n).yld i H x H' → g x σ H' fun σ2 H2 => tb { D with nx := N, ct := N, bk := D.nx } σ2 H2) :=
  for_its (y := fun i => .int (lo - i)) Pv (fun _ _ _ h _ => h) (fun _ _ _ => Nat.le_refl _) (fun _ _ _ _ _ z => z) h0 hs hd
noncomputable def Ite (K : PySem.W.Frag) (a : Addr) (xs : List V) : It :=
  ⟨fun i H => SqL K H a xs ∧ i < xs.length, fun i H v H' => ∃ T x, H T = none ∧ xs[i]? = some x ∧ v = .ref T ∧ H' = upd H T (.tup [.int i, x]), fun i H => SqL K H a xs ∧ xs.length ≤ i⟩
theorem turn_enum {P : Program} {w : World} {K : PySem.W.Frag} {elts : List Expr} {k : Nat} {pos : Pos} (e it a : Addr) (hei : e ≠ it) (xs : List V) :
    Turn P w K (.Tuple elts k pos) (Ite K a xs) [e, it] e (fun i h => (∃ old, IsEnum h e it i old) ∧ h.IsListIter it a i) where
  mem := List.mem_cons_self
  obj := fun i h st c hc => by
    obtain ⟨⟨old, he⟩, o1, e1, _, d1⟩ := st
    rcases List.mem_cons.mp hc with rfl | hc
    · exact ⟨_, he, fun v e => nomatch e⟩
    · rw [List.mem_singleton.mp hc]
      exact ⟨o1, e1, fun v z => by rw [d1] at z; cases z⟩
  keep := fun i h h' st kp => by
    obtain ⟨⟨old, he⟩, h1⟩ := st
    exact ⟨⟨old, kp e List.mem_cons_self _ he⟩, h1.at fun o q => kp it (List.mem_cons_of_mem _ (List.mem_singleton.mpr rfl)) o q⟩
  item := by
    intro X hP hw hK hc i pins s σ H E I hf st hg
    subst hP hw hK
    obtain ⟨hq, hi⟩ := hg
    obtain ⟨its, rv, p, hz⟩ := I.list hq
    have hx : xs[i]? = some xs[i] := List.getElem?_eq_getElem hi
    obtain ⟨u, hu, ru⟩ := rv.get hx
    obtain ⟨⟨old, he⟩, h1⟩ := st
    refine wpAny_pyNext_enum_item he h1 p.isList (x := u) (by simpa using hu) hei fun h' a1 a2 a3 a4 hk => ⟨_, rfl, ?_⟩
    refine wpAny_letOwnedTupleGo_enum (s := { s with heap := h', toks := s.toks + 1 }) a1 fun h'' he'' hs'' => ?_
    have kk : ∀ c o, c ∉ [e, it] → s.heap.get? c = some o → h''.get? c = some o := fun c o hc q =>
      hs''.extBut _ _ (fun x => hc (by simp [x])) (hk c o (fun x => hc (by simp [x])) (fun x => hc (by simp [x])) q)
    have lte : e < s.heap.objs.size := Heap.lt_size he
    have hT := hs''.extBut _ _ (Nat.ne_of_gt lte) a3
    have fr := I.hok.fresh (Nat.le_refl s.heap.objs.size)
    refine ⟨.ref s.heap.objs.size, upd H s.heap.objs.size (.tup [.int i, xs[i]]), I.turnedNew (t' := s.toks + 1) (ch := [e, it]) hf kk (Nat.le_refl _) ⟨by show 2 ≤ sizeLine; decide, [.int i s.toks, u], .cons ⟨_, rfl⟩ (.cons ru .nil), _, hT, rfl, _, rfl⟩, rfl, ⟨_, _, fr, hx, rfl, rfl⟩, ?_, fun b hb => ?_⟩
    · refine ⟨⟨u, ?_⟩, a2.extBut hs''.extBut (Ne.symm hei)⟩
      have := he''
      rw [show ((i + 1 : Nat) : Int) = (i : Int) + 1 from rfl]
      exact this
    · have hb0 := (hf b hb).1
      have : b ≠ s.heap.objs.size := by
        rcases List.mem_cons.mp hb with rfl | hb
        · exact Nat.ne_of_lt lte
        · rw [List.mem_singleton.mp hb]
          obtain ⟨_, q, _⟩ := h1
          exact Nat.ne_of_lt (Heap.lt_size q)
      rw [upd_ne this]
      exact hb0
  done := by
    intro X hP hw hK hc i pins s σ H E I hf st hg
    subst hP hw hK
    obtain ⟨hq, hi⟩ := hg
    obtain ⟨its, rv, p, hz⟩ := I.list hq
    have hl := rv.length
    obtain ⟨⟨old, he⟩, h1⟩ := st
    exact wpAny_pyNext_enum_end (I.ok.hd hc) he h1 p.isList (by simp; omega) fun h' hk => ⟨rfl, I.turnedL (t' := s.toks) (ch := [e, it]) hf fun b o hb q => hk b o (fun x => hb (by simp [x])) q⟩
  self := fun _ _ _ _ _ st h => let ⟨⟨_, he⟩, _⟩ := st; wpAny_pyIter_enum he h
noncomputable def iEnum (K : PySem.W.Frag) (ta : TA) : TI := fun σ H R => ta σ H fun vs H1 => ∃ a xs, vs = [.ref a] ∧ SqL K H1 a xs ∧ R (Ite K a xs) H1
section
variable {X : Cx}
theorem pi_enum {elts : List Expr} {k : Nat} {tpos : Pos} {a : Expr} {ta : TA} {p pos : Pos} (K : PySem.W.Frag) (hK : X.K = K) (hg : Gl X "enumerate") (hm : X.mg "enumerate" = none) (ha : PA X [a] ta) (hs : starEach [a] X.env = [(false, eval a X.env)] := by rfl) :
    PI X (.Tuple elts k tpos) (.Call (.Name "enumerate" p) [a] [] pos) (iEnum K ta) := by
  subst hK
  intro pins s σ H R I h
  refine Call_ (ld_blt I hg hm boot_enumerate (PyProof.Rows.callWith_type1 (thn (ha pos pins s σ H _ I h) fun us s1 ⟨vs, H1, I1, r1, q1⟩ => ?_) hs rfl))
  obtain ⟨a, xs, e, hq, q⟩ := q1
  subst e
  obtain ⟨u, rfl, ru⟩ := vals1 r1
  cases ru
  obtain ⟨its, rv, pl, hz⟩ := I1.list hq
  refine call_enumerate_list pl.isList fun h' he hit hsz hk => wpAny_pyIter_enum he ?_
  refine ⟨_, [s1.heap.objs.size + 1, s1.heap.objs.size], _, _, H1, rfl, I1.kept (t' := s1.toks) hk, turn_enum _ _ a (Nat.ne_of_gt (Nat.lt_succ_self _)) xs, ⟨⟨_, he⟩, hit⟩, fun b hb => ?_, q⟩
  have hb' : s1.heap.objs.size ≤ b := by
    rcases List.mem_cons.mp hb with e | hb
    · rw [e]; exact Nat.le_succ _
    · rw [List.mem_singleton.mp hb]; exact Nat.le_refl _
  exact I1.fpOk hb' (I1.hok.fresh hb')
end
theorem for_enum {K : PySem.W.Frag} {a : Addr} {xs : List V} {g : TG} {tb : TS} {D : Ends} {σ : St} {H : Hp} (Pv : Nat → St → Hp → Prop) (h0 : Pv 0 σ H) (hl : ∀ i σ H, Pv i σ H → SqL K H a xs)
    (hs : ∀ i x T σ H, xs[i]? = some x → H T = none → Pv i σ H → g (.ref T) σ (upd H T (.tup [.int i, x])) fun σ2 H2 => tb { D with nx := Pv (i + 1), ct := Pv (i + 1), bk := D.nx } σ2 H2) (hd : ∀ σ H, Pv xs.length σ H → D.nx σ H) :
    ∃ W : Nat → Nat → St → Hp → Prop, (∃ m, W 0 m σ H) ∧ ∀ i m σ H, W i m σ H →
      ((Ite K a xs).stop i H ∧ D.nx σ H) ∨ ((Ite K a xs).go i H ∧ ∃ N : St → Hp → Prop, (∀ σ' H', N σ' H' → ∃ m', m' < m ∧ W (i + 1) m' σ' H') ∧ ∀ x H', (Ite K a xs).yld i H x H' → g x σ H' fun σ2 H2 => tb { D with nx := N, ct := N, bk := D.nx } σ2 H2) := by
  refine ⟨fun i m σ H => m = xs.length - i ∧ i ≤ xs.length ∧ Pv i σ H, ⟨_, rfl, Nat.zero_le _, h0⟩, ?_⟩
  rintro i m σ H ⟨rfl, hi, p⟩
  have q := hl i σ H p
  by_cases hlt : i < xs.length
  · refine .inr ⟨⟨q, hlt⟩, Pv (i + 1), fun σ' H' p' => ⟨xs.length - (i + 1), by omega, rfl, hlt, p'⟩, fun x H' y => ?_⟩
    obtain ⟨T, u, hT, hu, rfl, rfl⟩ := y
    exact hs i u T σ H hu hT p
  · have e : i = xs.length := Nat.le_antisymm hi (Nat.not_lt.mp hlt)
    subst e
    exact .inl ⟨⟨q, Nat.le_refl _⟩, hd σ H p⟩
section
variable {X : Cx}
theorem call_lenS : CallR X (.builtin "len") (fun xs H Q => ∃ (a : Addr) (ms : List Int), xs = [.ref a] ∧ H a = some (setO X.prog X.w a ms) ∧ Q (.int ms.length) H) := by
  intro pins s σ H xs us Q I r h
  obtain ⟨a, ms, rfl, ha, q⟩ := h
  obtain ⟨u, rfl, ru⟩ := vals1 r
  cases ru
  obtain ⟨S, _⟩ := I.hok a _ ha
  obtain ⟨o, es, ep, t, h1, h2, h3, h4, rfl, h6, h7, _⟩ := S
  refine call_len_set h1 h2 h3 h7 (by unfold scanBound at h6; omega) ⟨.int _, H, (I.tok _).tok _, ⟨s.toks + 1, ?_⟩, q⟩
  rw [List.length_map, Array.length_toList]
end
noncomputable def TupsV (F : Nat → List V → Prop) (H : Hp) (xs : List V) : Prop := ∀ (k : Nat) x, xs[k]? = some x → ∃ t vs, x = .ref t ∧ H t = some (.tup vs) ∧ F k vs
theorem TupsV.mono {F G : Nat → List V → Prop} {H H' : Hp} {xs : List V} (h : TupsV F H xs) (hs : ∀ t vs, H t = some (.tup vs) → H' t = some (.tup vs)) (hf : ∀ k vs, F k vs → G k vs) : TupsV G H' xs := fun k x e =>
  let ⟨t, vs, e1, e2, e3⟩ := h k x e
  ⟨t, vs, e1, hs _ _ e2, hf _ _ e3⟩
theorem TupsV.row {H : Hp} : ∀ {xs : List V} {r : List (Int × Int)}, xs.length = r.length → TupsV (fun k vs => vs = [.int (r.getD k (0, 0)).1, .int (r.getD k (0, 0)).2]) H xs → RowV H xs r
  | [], [], _, _ => .nil
  | [], _ :: _, e, _ => nomatch e
  | _ :: _, [], e, _ => nomatch e
  | x :: xs, p :: r, e, h => by
    obtain ⟨t, vs, e1, e2, e3⟩ := h 0 x rfl
    refine .cons ⟨t, e1, ?_⟩ (TupsV.row (Nat.succ.inj e) fun k y hy => h (k + 1) y hy)
    rw [e2, e3]
    rfl
theorem comp_tups {J : It} {n : Nat} {cap : List (Nat × Str)} {own : Nat} {g : TG} {tc : TT} {te : TE} {σ : St} {H : Hp} {Q : Addr → Hp → Prop} (F : Nat → List V → Prop) (hn : n ≤ 1000)
    (go : ∀ i H', Same H H' → i < n → J.go i H') (stop : ∀ H', Same H H' → J.stop n H')
    (turn : ∀ i x H' H1 (Q1 : V → Hp → Prop) (Q2 : Hp → Prop), i < n → Same H H' → J.yld i H' x H1 → (∀ u vs H4, Same H' H4 → H4 u = none → F i vs → Q1 (.ref u) (upd H4 u (.tup vs))) →
      g x (blk cap own σ) H1 fun σ2 H2 => (σ2.take cap.length = capσ cap σ ∧ σ2.length = cap.length + own) ∧ tc σ2 H2 fun b H3 => if b = true then te σ2 H3 Q1 else Q2 H3)
    (done : ∀ D ys H', H D = none → Same H H' → H' D = some (.lst ys) → ys.length = n → TupsV F H' ys → Q D H') :
    ∀ D, H D = none → ∃ W : Nat → Nat → List V → Hp → Prop, (∃ m, W 0 m [] (upd H D (.lst []))) ∧ ∀ i m ys H, W i m ys H → H D = some (.lst ys) ∧
      ((J.stop i H ∧ Q D H) ∨ (J.go i H ∧ ∀ x H', J.yld i H x H' → g x (blk cap own σ) H' fun σ2 H2 =>
        (σ2.take cap.length = capσ cap σ ∧ σ2.length = cap.length + own) ∧ tc σ2 H2 fun b H3 =>
          if b = true then te σ2 H3 fun v H4 => H4 D = some (.lst ys) ∧ ys.length < sizeLine ∧ ∃ m', m' < m ∧ W (i + 1) m' (ys ++ [v]) (upd H4 D (.lst (ys ++ [v])))
          else ∃ m', m' < m ∧ W (i + 1) m' ys H3)) := by
  intro D hD
  refine ⟨fun i m ys H' => m = n - i ∧ i ≤ n ∧ Same H H' ∧ H' D = some (.lst ys) ∧ ys.length = i ∧ TupsV F H' ys, ⟨n, rfl, Nat.zero_le _, Same.upd hD, upd_same, rfl, fun k x e => nomatch e⟩, ?_⟩
  rintro i m ys H' ⟨rfl, hi, s, hd, yl, hy⟩
  refine ⟨hd, ?_⟩
  by_cases hlt : i < n
  · refine .inr ⟨go i H' s hlt, fun x H1 y => turn i x H' H1 _ _ hlt s y fun u vs H4 s4 hu hF => ?_⟩
    have hd4 := s4 _ _ hd
    have nD : D ≠ u := ne_of_none hd4 hu
    refine ⟨by rw [upd_ne nD]; exact hd4, small1000 (by omega), n - (i + 1), by omega, rfl, hlt, ((s.trans s4).trans (Same.upd hu)).upd' hD, upd_same, by rw [List.length_append, yl]; rfl, fun k z e => ?_⟩
    by_cases c : k < ys.length
    · rw [List.getElem?_append_left c] at e
      obtain ⟨t, ws, e1, e2, e3⟩ := hy k z e
      have m1 : t ≠ D := fun e => by rw [e, hd] at e2; cases e2
      have z4 := s4 _ _ e2
      exact ⟨t, ws, e1, by rw [upd_ne m1, upd_ne (ne_of_none z4 hu)]; exact z4, e3⟩
    · have hk : k < (ys ++ [V.ref u]).length := (List.getElem?_eq_some_iff.mp e).1
      rw [List.length_append] at hk
      have ek : k = ys.length := Nat.le_antisymm (Nat.le_of_lt_succ hk) (Nat.not_lt.mp c)
      rw [ek, List.getElem?_append_right (Nat.le_refl _), Nat.sub_self] at e
      cases e
      exact ⟨u, vs, rfl, by rw [upd_ne nD.symm, upd_same], by rw [ek, yl]; exact hF⟩
  · have e : i = n := Nat.le_antisymm hi (Nat.not_lt.mp hlt)
    subst e
    exact .inl ⟨stop H' s, done D ys H' hD s hd yl hy⟩
section
variable {X : Cx}
theorem call_sumIK (K : PySem.W.Frag) (hK : X.K = K) (hc : X.calm = true) : CallR X (.builtin "sum") (fun xs H Q => ∃ (p : Addr) (ns : List Int), xs = [.ref p] ∧ SqL K H p (ns.map V.int) ∧ Q (.int ns.sum) H) := by subst hK; exact call_sumI hc
end
end L2

set_option genSizeOf false
set_option genInjectivity false
namespace Fk
open PySem L2 Fm PyProof.Rows
section
variable {P : Program} {w : World} {K : PySem.W.Frag} {mg : Str → Option Value} {base : Heap} {cA cC cS cF cR cH : Addr}
noncomputable def spUnk : Sp := fun vs H Q _ => ∃ a r, vs = [.ref a] ∧ RowOk H a r ∧ ∀ l H', H l = none → Same H H' → H' l = some (.lst ((unk r).map V.int)) → Q (.ref l) H'
theorem sc_unknocked : FnScope ["row", "stones", "k"] ["row"] (defScope s_unknocked) := ⟨rfl, rfl, rfl, by decide +kernel, rfl, by decide +kernel, by decide +kernel⟩
theorem ok_unk {f : Addr} {fd : FuncData} (F : Fun K "unknocked" "unknocked" s_unknocked f fd) (B : Blt mg) (d_first_standing : Dfn P w K mg base "first_standing" 1 ["row", "stone"] (spFirst)) : FnOk P w K mg base CX0 2 f fd ["row"] (spUnk) := by
  refine F.ok sc_unknocked (fun vs H Q E h => ?_) (fun cdv A outer s H vs Q E hr h => ?_)
  · obtain ⟨a, r, rfl, _⟩ := h
    rfl
  · obtain ⟨a, r, rfl, R, q⟩ := h
    obtain ⟨⟨xs, ha, hx⟩, g, hle⟩ := id R
    have hlen := hx.length
    refine ⟨_, (pss_cons (ps_set (i := 1) sc_unknocked.nd rfl (Or.inl rfl) (pe_lst pa_nil))
      (pss_cons (ps_set (i := 2) sc_unknocked.nd rfl (Or.inl rfl) pe_int)
      (pss_cons (ps_while PassesOwn.never (pt_cmpR op_lt (pv 2) (pe_callB (call_len_seqK K rfl) (by rfl) B.b_len boot_len (pa_cons (pv 0) pa_nil)) (nomark _))
        (pss_cons (ps_expr (pe_bm PySem.F.plainAttrs_list PySem.F.slot_list_append PySem.F.type_list_append mt_append (pv 1) (pa_cons (pv 2) pa_nil)))
        (pss_one (ps_set (i := 2) sc_unknocked.nd rfl (Or.inl rfl) (pe_callD d_first_standing (hr.mono (by decide)) (by rfl) (pa_cons (pv 0) (pa_cons (pv 2) pa_nil)))))))
      (pss_one (ps_ret (pv 1)))))), ?_⟩
    refine ⟨zero_ok, fun l nl => ?_⟩
    refine ⟨fun m σ H2 => ∃ k : Nat, σ = [some (.ref a), some (.ref l), some (.int (k : Int))] ∧ Same H H2 ∧ H2 l = some (.lst ((unkTo r k).map V.int)) ∧ k ≤ r.length ∧ m = r.length - k ∧ (k < r.length → unr r k = true), ⟨_, 0, rfl, Same.upd nl, upd_same, Nat.zero_le _, rfl, fun _ => unr_zero r⟩, ?_⟩
    rintro m σ H2 ⟨k, rfl, s2, e2, hk, rfl, hu⟩
    refine ⟨_, rfl, rd_len rfl (SqL.of (s2 _ _ ha)) (rd_op ⟨_, rfl, ?_⟩)⟩
    by_cases c : k < r.length
    · rw [decide_eq_true (show (k : Int) < (xs.length : Int) by omega)]
      obtain ⟨u1, u2⟩ := unk_step g c (hu c)
      have f1 := lt_fs r k
      have f2 := fs_le c
      have zk := unkTo_len r k
      have s3 : Same H (L2.upd H2 l (.lst ((unkTo r k).map V.int ++ [V.int (k : Int)]))) := s2.upd' nl
      refine iteT ⟨fun σ H3 => σ = [some (.ref a), some (.ref l), some (.int ((fs r k : Nat) : Int))] ∧ H3 = L2.upd H2 l (.lst ((unkTo r k).map V.int ++ [V.int (k : Int)])), ?_, ?_⟩
      · rintro σ' H' ⟨rfl, rfl⟩
        refine ⟨r.length - fs r k, by omega, fs r k, rfl, s3, ?_, f2, rfl, u2⟩
        rw [upd_same, ← u1, List.map_append]
        rfl
      · refine ⟨_, rfl, .inl ⟨rfl, _, SqL.of e2⟩, _, rfl, l, _, _, rfl, rfl, e2, small1000 (by rw [List.length_map]; omega), ?_⟩
        exact ⟨_, rfl, _, rfl, a, r, k, rfl, R.at_.same s3, hle, c, rfl, rfl⟩
    · rw [decide_eq_false (show ¬ (k : Int) < (xs.length : Int) by omega)]
      refine iteF ⟨_, rfl, q l H2 nl s2 ?_⟩
      have e : k = r.length := by omega
      rw [e] at e2
      exact e2
noncomputable def cf (l : Addr) : List (Str × V) := [("stones", .ref l)]
theorem cf_stones (l : Addr) : (cf l).lookup ("stones" : Str) = some (.ref l) := by unfold cf; simp [List.lookup]
theorem cf_shows (l : Addr) : (cf l).lookup ("shows" : Str) = none := by
  have h : (("shows" : Str) == "stones") = false := by decide +kernel
  show (match (("shows" : Str) == "stones") with | true => some (V.ref l) | false => List.lookup ("shows" : Str) []) = none
  rw [h]
  rfl
noncomputable def spRInit (cR : Addr) : Sp := fun vs H Q _ => ∃ p dx l ns, vs = [.ref p, .ref l] ∧ H p = some (.ins cR dx []) ∧ H l = some (.lst ns) ∧
  ∀ l' H', H l' = none → H' l' = some (.lst ns) → H' p = some (.ins cR dx (cf l')) → (∀ b, b ≠ p → b ≠ l' → H' b = H b) → Q .non H'
theorem sc_Rights_init : FnScope ["self", "stones"] ["self", "stones"] (defScope s_Rights_init) := ⟨rfl, rfl, rfl, by decide +kernel, rfl, by decide +kernel, by decide +kernel⟩
theorem ok_RInit {f : Addr} {fd : FuncData} (F : Fun K "__init__" "Rights.__init__" s_Rights_init f fd) (B : Blt mg) (T : Kc K mg cA cC cS cF cR cH) : FnOk P w K mg base CX0 1 f fd ["self", "stones"] (spRInit cR) := by
  refine F.ok sc_Rights_init (fun vs H Q E h => ?_) (fun cdv A outer s H vs Q E hr h => ?_)
  · obtain ⟨p, dx, l, ns, rfl, _⟩ := h
    rfl
  · obtain ⟨p, dx, l, ns, rfl, hp, hl, q⟩ := h
    refine ⟨_, (pss_one (ps_fld (pv 0) (pe_callTy (call_list_ofK K rfl) (by rfl) B.b_list boot_list (pa_cons (pv 1) pa_nil)) rfl)), ?_⟩
    refine ⟨_, rfl, l, ns, rfl, .inl (SqL.of hl), fun l' n => ?_⟩
    have np : p ≠ l' := ne_of_none hp n
    refine ⟨_, rfl, p, cR, dx, [], rfl, by rw [upd_ne np]; exact hp, T.lR, T.nR1, (by show 0 < 1000; decide), ?_⟩
    refine q l' _ n (by rw [upd_ne np.symm, upd_same]) upd_same fun b hb hb2 => ?_
    rw [upd_ne hb, upd_ne hb2]
theorem at_stones (T : Kc K mg cA cC cS cF cR cH) {σ : L2.St} {i : Nat} {H : Hp} {p dx l : Addr} (e : σ[i]? = some (some (.ref p))) (h : H p = some (.ins cR dx (cf l))) : FldAt K σ i H "stones" (.ref l) := ⟨p, cR, dx, _, e, h, T.lR, T.nR1, cf_stones _⟩
noncomputable def spRShows (cR : Addr) : Sp := fun vs H Q _ => ∃ p dx l ss a r, vs = [.ref p, .ref a] ∧ H p = some (.ins cR dx (cf l)) ∧ H l = some (.lst (ss.map V.int)) ∧ RowOk H a r ∧ ∀ H', Same H H' → Q (.bl (decide (ss = unk r))) H'
theorem sc_Rights_shows : FnScope ["self", "row"] ["self", "row"] (defScope s_Rights_shows) := ⟨rfl, rfl, rfl, by decide +kernel, rfl, by decide +kernel, by decide +kernel⟩
theorem ok_RShows {f : Addr} {fd : FuncData} (F : Fun K "shows" "Rights.shows" s_Rights_shows f fd) (B : Blt mg) (T : Kc K mg cA cC cS cF cR cH) (d_unknocked : Dfn P w K mg base "unknocked" 2 ["row"] (spUnk)) : FnOk P w K mg base CX0 3 f fd ["self", "row"] (spRShows cR) := by
  refine F.ok sc_Rights_shows (fun vs H Q E h => ?_) (fun cdv A outer s H vs Q E hr h => ?_)
  · obtain ⟨p, dx, l, ss, a, r, rfl, _⟩ := h
    rfl
  · obtain ⟨p, dx, l, ss, a, r, rfl, hp, hl, R, q⟩ := h
    have hu0 := hr.units
    refine ⟨_, (pss_one (ps_ret (pe_cmpR (op_eqL hu0) (pe_fldvK K rfl (pv 0) rfl) (pe_callD d_unknocked (hr.mono (by decide)) (by rfl) (pa_cons (pv 1) pa_nil)) (nomark _)))), ?_⟩
    exact ⟨_, at_stones T rfl hp, _, rfl, a, r, rfl, R, fun l2 H2 n2 s2 e2 => ⟨l, l2, _, rfl, rfl, .iL (SqL.of (s2 _ _ hl)) (SqL.of e2), q H2 s2⟩⟩
noncomputable def spRights (cR : Addr) : Sp := fun vs H Q _ => ∃ a r, vs = [.ref a] ∧ RowOk H a r ∧ ∀ p dx l H', H p = none → H l = none → Same H H' → H' p = some (.ins cR dx (cf l)) → H' l = some (.lst ((unk r).map V.int)) → Q (.ref p) H'
theorem sc_rights : FnScope ["row"] ["row"] (defScope s_rights) := ⟨rfl, rfl, rfl, by decide +kernel, rfl, by decide +kernel, by decide +kernel⟩
theorem ok_rights {f : Addr} {fd : FuncData} (F : Fun K "rights" "rights" s_rights f fd) (d_check_row : Dfn P w K mg base "check_row" 3 ["row"] (spChkRow)) (d_unknocked : Dfn P w K mg base "unknocked" 2 ["row"] (spUnk)) (c_Rights : Mke P w K mg base "Rights" cR 1 ["self", "stones"] (spRInit cR)) : FnOk P w K mg base CX0 4 f fd ["row"] (spRights cR) := by
  refine F.ok sc_rights (fun vs H Q E h => ?_) (fun cdv A outer s H vs Q E hr h => ?_)
  · obtain ⟨a, r, rfl, _⟩ := h
    rfl
  · obtain ⟨a, r, rfl, R, q⟩ := h
    refine ⟨_, (pss_cons (ps_expr (pe_callD d_check_row (hr.mono (by decide)) (by rfl) (pa_cons (pv 0) pa_nil)))
      (pss_one (ps_ret (pe_makeD c_Rights (hr.mono (by decide)) (by rfl) (pa_cons (pe_callD d_unknocked (hr.mono (by decide)) (by rfl) (pa_cons (pv 0) pa_nil)) pa_nil))))), ?_⟩
    refine ⟨_, rfl, a, r, rfl, R, ?_⟩
    refine ⟨_, rfl, a, r, rfl, R, fun l1 H1 n1 s1 e1 p dx np ndx ne => ?_⟩
    have nl : l1 ≠ p := ne_of_none e1 np
    have nl2 : l1 ≠ dx := ne_of_none e1 ndx
    refine ⟨p, dx, l1, _, rfl, upd_same, by rw [upd_ne nl, upd_ne nl2]; exact e1, fun l2 H2 n2 e2 p2 k2 => ⟨rfl, ?_⟩⟩
    have a1 : l2 ≠ p := fun z => by rw [z, upd_same] at n2; cases n2
    have a2 : l2 ≠ dx := fun z => by rw [z, upd_ne ne, upd_same] at n2; cases n2
    have n1' : H1 l2 = none := by rw [upd_ne a1, upd_ne a2] at n2; exact n2
    refine q p dx l2 H2 (s1.free np) (s1.free n1') (fun b u z => ?_) p2 e2
    have z1 := s1 _ _ z
    rw [k2 b (ne_of_none z1 np) (ne_of_none z1 n1'), upd_ne (ne_of_none z1 np), upd_ne (ne_of_none z1 ndx)]
    exact z1
end
end Fk

set_option genSizeOf false
set_option genInjectivity false
namespace Fk
open PySem L2 Fm PyProof.Rows
section
variable {P : Program} {w : World} {K : PySem.W.Frag} {mg : Str → Option Value} {base : Heap} {cA cC cS cF cR cH : Addr}
noncomputable def spReach : Sp := fun vs H Q _ => ∃ a r s sd, vs = [.ref a, .int ((s : Nat) : Int), .int sd] ∧ RowAt H a r ∧ s < r.length ∧ Sd sd ∧ Q (.int (pl r s * sd + ht r s)) H
theorem sc_reach : FnScope ["row", "stone", "side"] ["row", "stone", "side"] (defScope s_reach) := ⟨rfl, rfl, rfl, by decide +kernel, rfl, by decide +kernel, by decide +kernel⟩
theorem ok_reach {f : Addr} {fd : FuncData} (F : Fun K "reach" "reach" s_reach f fd)  : FnOk P w K mg base CX0 1 f fd ["row", "stone", "side"] (spReach) := by
  refine F.ok sc_reach (fun vs H Q E h => ?_) (fun cdv A outer s H vs Q E hr h => ?_)
  · obtain ⟨a, r, s, sd, rfl, _⟩ := h
    rfl
  · obtain ⟨a, r, st, sd, rfl, ⟨xs, ha, hx⟩, hs, hd, q⟩ := h
    obtain ⟨t, x0, h0⟩ := hx.get hs
    refine ⟨_, (pss_one (ps_ret (pe_op op_add (pe_op op_mul (pe_ix (ix_tupK K rfl) (pe_ix (ix_listK K rfl) (pv 0) (pv 1) (fun _ _ => rfl)) pe_int (fun _ _ => rfl)) (pv 2)) (pe_ix (ix_tupK K rfl) (pe_ix (ix_listK K rfl) (pv 0) (pv 1) (fun _ _ => rfl)) pe_int (fun _ _ => rfl))))), ?_⟩
    refine rd_rix rfl rfl (SqL.of ha) (atI_nat x0) (SqT.of h0) rfl (?_)
    refine ⟨_, rfl, rd_opC (.inr ?_) (rd_rix rfl rfl (SqL.of ha) (atI_nat x0) (SqT.of h0) rfl (rd_op q))⟩
    rcases hd with rfl | rfl <;> exact ⟨by decide, by decide⟩
end
end Fk

set_option genSizeOf false
set_option genInjectivity false
namespace Fk
open PySem L2 Fm PyProof.Rows
section
variable {P : Program} {w : World} {K : PySem.W.Frag} {mg : Str → Option Value} {base : Heap}
theorem rngL_get {a c : Int} {n i : Nat} {x : V} (h : ((rngL a c n).map V.int)[i]? = some x) : i < n ∧ x = .int (a + (i : Int) * c) := by
  unfold rngL at h
  rw [List.map_map, List.getElem?_map] at h
  by_cases c1 : i < n
  · rw [List.getElem?_range c1] at h
    exact ⟨c1, (Option.some.inj h).symm⟩
  · rw [List.getElem?_eq_none (by simpa using c1)] at h
    cases h
noncomputable def spLFelled : Sp := fun vs H Q _ => ∃ a r s, vs = [.ref a, .int ((s : Nat) : Int), .int 1] ∧ RowAt H a r ∧ r.length ≤ 1000 ∧ s < r.length ∧ ∀ H', Same H H' → Q (.int ((fs r s - 1 : Nat) : Int)) H'
theorem sc_law_felled : FnScope ["_law_row_here", "_law_stone", "_law_side", "_law_reach", "_law_at", "_law_other", "_law_place", "_law_height"] ["_law_row_here", "_law_stone", "_law_side"] (defScope s_law_felled) := ⟨rfl, rfl, rfl, by decide +kernel, rfl, by decide +kernel, by decide +kernel⟩
theorem ok_LFelled {f : Addr} {fd : FuncData} (F : Fun K "_law_felled" "_law_felled" s_law_felled f fd) (B : Blt mg) : FnOk P w K mg base CX0 1 f fd ["_law_row_here", "_law_stone", "_law_side"] (spLFelled) := by
  refine F.ok sc_law_felled (fun vs H Q E h => ?_) (fun cdv A outer s H vs Q E hr h => ?_)
  · obtain ⟨a, r, s, rfl, _⟩ := h
    rfl
  · obtain ⟨a, r, st, rfl, ⟨xs, ha, hx⟩, hle, hs, q⟩ := h
    have hlen := hx.length
    obtain ⟨t, x0, h0⟩ := hx.get hs
    refine ⟨_, (pss_cons (ps_par (i := 3) (j := 4) rfl sc_law_felled.nd rfl rfl (by decide) rfl rfl (pa_cons (pe_op op_add (pe_ix (ix_tupK K rfl) (pe_ix (ix_listK K rfl) (pv 0) (pv 1) (fun _ _ => rfl)) pe_int (fun _ _ => rfl)) (pe_op op_mul (pv 2) (pe_ix (ix_tupK K rfl) (pe_ix (ix_listK K rfl) (pv 0) (pv 1) (fun _ _ => rfl)) pe_int (fun _ _ => rfl)))) (pa_cons (pv 1) pa_nil)) (by rfl))
      (pss_cons (ps_for PassesOwn.never rfl (pi_list (pe_ifExp (pt_cmpR op_eq (pv 2) pe_int (nomark _)) (pe_callTy (call_listR rfl) (by rfl) B.b_list boot_list (pa_cons (pe_callTy call_rangeV (by rfl) B.b_range boot_range (pa_cons (pe_op op_add (pv 1) pe_int) (pa_cons (pe_callB (call_len_seqK K rfl) (by rfl) B.b_len boot_len (pa_cons (pv 0) pa_nil)) pa_nil))) pa_nil)) (pe_callTy (call_listR rfl) (by rfl) B.b_list boot_list (pa_cons (pe_callTy call_rangeV (by rfl) B.b_range boot_range (pa_cons (pe_op op_sub (pv 1) pe_int) (pa_cons (pe_un un_neg pe_int) (pa_cons (pe_un un_neg pe_int) pa_nil)))) pa_nil)))) (pg_name (i := 5) sc_law_felled.nd rfl (Or.inl rfl))
        (pss_cons (ps_asg (pe_ix (ix_listK K rfl) (pv 0) (pv 5) (fun _ _ => rfl)) (pg_tupK (n := 2) K rfl rfl (pgs_cons (pg_name (i := 6) sc_law_felled.nd rfl (Or.inl rfl)) (pgs_cons (pg_name (i := 7) sc_law_felled.nd rfl (Or.inl rfl)) pgs_nil))))
        (pss_cons (ps_if (pt_cmpR op_lt (pe_op op_mul (pe_op op_sub (pv 3) (pv 6)) (pv 2)) pe_int (nomark _))
          (pss_one (ps_ret (pv 4)))
          pss_nil)
        (pss_cons (ps_set (i := 4) sc_law_felled.nd rfl (Or.inl rfl) (pv 5))
        (pss_one (ps_if (pt_cmpR op_gt (pe_op op_mul (pe_op op_sub (pe_op op_add (pv 6) (pe_op op_mul (pv 2) (pv 7))) (pv 3)) (pv 2)) pe_int (nomark _))
          (pss_one (ps_set (i := 3) sc_law_felled.nd rfl (Or.inl rfl) (pe_op op_add (pv 6) (pe_op op_mul (pv 2) (pv 7)))))
          pss_nil))))))
      (pss_one (ps_ret (pv 4))))), ?_⟩
    have bd : (-(2 ^ 64) < (1 : Int) ∧ (1 : Int) < 2 ^ 64) := ⟨by decide, by decide⟩
    refine rd_rix rfl rfl (SqL.of ha) (atI_nat x0) (SqT.of h0) rfl (?_)
    refine ⟨_, rfl, rd_rix rfl rfl (SqL.of ha) (atI_nat x0) (SqT.of h0) rfl (rd_opC (.inl bd) (rd_op ⟨_, rfl, _, _, rfl, ?_⟩))⟩
    refine ⟨_, rfl, rfl, _, rfl, iteT ⟨_, rfl, rd_op (rd_len rfl (SqL.of ha) ⟨(st : Int) + 1, (xs.length : Int), 1, .inr (.inl ⟨rfl, rfl⟩), fun u hu => ⟨u, _, _, _, xs.length - (st + 1), rfl, upd_same, small_ok (by omega) (by omega) (by omega) (by omega), size_ok (by omega), by omega, fun l hl => ?_⟩⟩)⟩⟩
    have sm : Same H (upd (upd H u (rngO u ((st : Int) + 1) (xs.length : Int) 1)) l (.lst ((rngL ((st : Int) + 1) 1 (xs.length - (st + 1))).map V.int))) := (Same.upd hu).trans (Same.upd hl)
    have hl1 : (upd (upd H u (rngO u ((st : Int) + 1) (xs.length : Int) 1)) l (.lst ((rngL ((st : Int) + 1) 1 (xs.length - (st + 1))).map V.int))) l = some (.lst ((rngL ((st : Int) + 1) 1 (xs.length - (st + 1))).map V.int)) := upd_same
    generalize upd (upd H u (rngO u ((st : Int) + 1) (xs.length : Int) 1)) l (.lst ((rngL ((st : Int) + 1) 1 (xs.length - (st + 1))).map V.int)) = H1 at sm hl1 ⊢
    have zl : ((rngL ((st : Int) + 1) 1 (xs.length - (st + 1))).map V.int).length = xs.length - (st + 1) := by rw [List.length_map, rngL_length]
    refine ⟨l, rfl, ⟨_, SqL.of hl1⟩, for_list (K := K) (a := l) (xs := (rngL ((st : Int) + 1) 1 (xs.length - (st + 1))).map V.int) (fun i σ H2 => H2 = H1 ∧ ∃ (c : Int) (v5 v6 v7 : Option V), σ = [some (.ref a), some (.int (st : Int)), some (.int 1), some (.int c), some (.int ((st + i : Nat) : Int)), v5, v6, v7] ∧ st + 1 + i + Fm.run c (r.drop (st + 1 + i)) = fs r st)
      ⟨rfl, pl r st + 1 * ht r st, none, none, none, rfl, by rw [Int.one_mul]; rfl⟩ (fun i σ H2 _ ⟨e, _⟩ => e ▸ SqL.of hl1) ?_ ?_⟩
    · rintro i x σ H2 hi ⟨rfl, c, v5, v6, v7, rfl, hf⟩
      obtain ⟨him, rfl⟩ := rngL_get hi
      have hk : st + 1 + i < r.length := by omega
      obtain ⟨t1, x1, h1⟩ := hx.get hk
      have ei : (st : Int) + 1 + (i : Int) * 1 = ((st + 1 + i : Nat) : Int) := by omega
      rw [ei]
      refine ⟨_, rfl, _, rfl, a, xs, _, _, rfl, rfl, SqL.of (sm _ _ ha), atI_nat x1, rd_tup2 (SqT.of (sm _ _ h1)) (?_)⟩
      refine ⟨_, rfl, _, rfl, rd_op ⟨_, rfl, rd_opC (.inr bd) (rd_op ⟨_, rfl, ?_⟩)⟩⟩
      by_cases c1 : pl r (st + 1 + i) ≤ c
      · rw [decide_eq_false (show ¬ (c - (r.getD (st + 1 + i) (0, 0)).1) * 1 < 0 by have : (r.getD (st + 1 + i) (0, 0)).1 ≤ c := c1; omega)]
        refine iteF ⟨_, rfl, ?_⟩
        refine ⟨_, rfl, _, rfl, _, rfl, rd_opC (.inl bd) (rd_op ⟨_, rfl, rd_op ⟨_, rfl, rd_opC (.inr bd) (rd_op ⟨_, rfl, ?_⟩)⟩⟩)⟩
        rw [run_step hk c1] at hf
        by_cases c2 : (pl r (st + 1 + i) + 1 * ht r (st + 1 + i) - c) * 1 > 0
        · rw [decide_eq_true (show ((r.getD (st + 1 + i) (0, 0)).1 + 1 * (r.getD (st + 1 + i) (0, 0)).2 - c) * 1 > 0 from c2)]
          refine iteT ⟨_, rfl, _, rfl, _, rfl, rd_opC (.inl bd) ⟨_, _, rfl, rfl, rfl, pl r (st + 1 + i) + 1 * ht r (st + 1 + i), some (.int ((st + 1 + i : Nat) : Int)), some (.int (pl r (st + 1 + i))), some (.int (ht r (st + 1 + i))), by rw [show st + (i + 1) = st + 1 + i by omega]; rfl, ?_⟩⟩
          rw [Int.max_eq_right (by omega)] at hf
          rw [Int.one_mul]
          show st + 1 + (i + 1) + Fm.run _ (r.drop (st + 1 + i + 1)) = _
          omega
        · rw [decide_eq_false (show ¬ ((r.getD (st + 1 + i) (0, 0)).1 + 1 * (r.getD (st + 1 + i) (0, 0)).2 - c) * 1 > 0 from c2)]
          refine iteF ⟨rfl, c, some (.int ((st + 1 + i : Nat) : Int)), some (.int (pl r (st + 1 + i))), some (.int (ht r (st + 1 + i))), by rw [show st + (i + 1) = st + 1 + i by omega]; rfl, ?_⟩
          rw [Int.max_eq_left (by omega)] at hf
          show st + 1 + (i + 1) + Fm.run _ (r.drop (st + 1 + i + 1)) = _
          omega
      · rw [decide_eq_true (show (c - (r.getD (st + 1 + i) (0, 0)).1) * 1 < 0 by have : ¬ (r.getD (st + 1 + i) (0, 0)).1 ≤ c := c1; omega)]
        refine iteT ⟨_, rfl, ?_⟩
        have h2 := q H2 sm
        rw [run_stop (fun z => c1 z.2)] at hf
        rw [show fs r st - 1 = st + i by omega] at h2
        exact h2
    · rintro σ H2 ⟨rfl, c, v5, v6, v7, rfl, hf⟩
      rw [zl] at hf ⊢
      refine ⟨_, rfl, ?_⟩
      have h2 := q H2 sm
      rw [run_stop (fun z => by have := z.1; omega)] at hf
      rw [show fs r st - 1 = st + (xs.length - (st + 1)) by omega] at h2
      exact h2
end
end Fk

set_option genSizeOf false
set_option genInjectivity false
namespace FxS
open PySem PySem.Spec PyProof.Rows
section
variable {prog : Program} {w : World} {A : Around} {E : Value → Shared → Prop} {s : Shared} {b₀ : Array Keyed}
theorem run_up {st : SortSt} {Q : Option Nat → SortSt → Prop} (i0 : IntKeys b₀) (B : SBase b₀ st) (z1 : 1 ≤ b₀.size) (up : SortedTo (arrOf st) b₀.size) (q : Q (some b₀.size) st) :
    wpS (model prog w) A E s (countRun' 0 b₀.size) Q st := by
  rw [countRun0_eq]
  refine wpS_bind (wpS_ascLoop i0 (Nat.le_refl _) (Nat.le_refl 1) z1 B (fun i j a b => up i j a (by omega)) fun m m1 m2 _ hor => ?_)
  have e : m = b₀.size := by
    by_cases e : m = b₀.size
    · exact e
    · have h1 := hor.resolve_left e
      have h2 := up (m - 1) m (by omega) (by omega)
      omega
  subst e
  dsimp only
  rw [if_pos (beq_self_eq_true _)]
  exact wpS_pure q
theorem runs_up {st : SortSt} {Q : Unit → SortSt → Prop} (i0 : IntKeys b₀) (B : SBase b₀ st) (z : b₀.size = 64) (up : SortedTo (arrOf st) b₀.size)
    (q : ∀ st₁, (arrOf st₁).Perm b₀ → failedOf st₁ = none → SortedTo (arrOf st₁) b₀.size → Q () st₁) : wpS (model prog w) A E s sortRuns' Q st := by
  rw [sortRuns'_eq]
  refine wpS_bind (wpS_get ?_)
  have mr : minRun' b₀.size b₀.size 0 = 32 := by rw [z]; rfl
  dsimp only
  simp only [B.size, mr]
  refine wpS_bind (wpS_mono (wpS_forRange (Q := fun c t => c = (none, b₀.size) ∧ SDone b₀ t)
    (I := fun x c t => (x = 0 ∧ c = (none, 0) ∧ t = st) ∨ (1 ≤ x ∧ c = (none, b₀.size) ∧ SDone b₀ t)) ?a ?b (Or.inl ⟨rfl, rfl, rfl⟩)) ?c)
  case a =>
    rintro x c t _ hx (⟨rfl, rfl, rfl⟩ | ⟨h1, rfl, D⟩)
    · dsimp only
      rw [if_neg (show ¬ 0 ≥ b₀.size by omega)]
      simp only [Nat.zero_add, Nat.sub_zero]
      refine wpS_bind (run_up i0 B (by omega) up ?_)
      dsimp only
      rw [if_neg (show ¬ b₀.size < 32 by omega)]
      refine wpS_bind (wpS_get ?_)
      rw [show (pendingOf t).back? = none by rw [B.pend]; rfl]
      exact wpS_bind (wpS_modify (wpS_pure (Or.inr ⟨by omega, rfl, B.done up⟩)))
    · dsimp only
      rw [if_pos (show b₀.size ≥ b₀.size from Nat.le_refl _)]
      exact wpS_pure ⟨rfl, D⟩
  case b =>
    rintro c t (⟨h, _⟩ | ⟨_, h1, h2⟩)
    · omega
    · exact ⟨h1, h2⟩
  case c =>
    rintro c t ⟨rfl, D⟩
    obtain ⟨d1, d2, d3, d4⟩ := id D
    dsimp only
    refine wpS_bind (wpS_mono (wpS_forRange (Q := fun c u => c = (none, ()) ∧ u = t) (I := fun _ c u => c = (none, ()) ∧ u = t) ?d (fun _ _ h => h) ⟨rfl, rfl⟩) ?e)
    case d =>
      rintro x c u _ _ ⟨rfl, rfl⟩
      refine wpS_bind (wpS_get ?_)
      rw [if_pos (show (pendingOf u).size ≤ 1 by rw [d3]; exact Nat.le_refl 1)]
      exact wpS_pure ⟨rfl, rfl⟩
    case e =>
      rintro c u ⟨rfl, rfl⟩
      exact wpS_pure (q u d1 d2 d4)
theorem pairs_up {vs : List Value} {ns : List Int} (hI : IntsAre vs ns) (hp : ns.Pairwise (· ≤ ·)) : SortedTo (pairsOf vs) (pairsOf vs).size := by
  intro i j hij hj
  have hz := pairsOf_size vs
  have key : ∀ k (hk : k < (pairsOf vs).size), numOf (pairsOf vs)[k].1 = ns.getD k 0 := by
    intro k hk
    have hk2 : k < vs.length := by omega
    rw [← hI.nums, List.getD_eq_getElem?_getD, List.getElem?_map, List.getElem?_eq_getElem hk2]
    simp [pairsOf]
  rw [K_eq (show i < (pairsOf vs).size by omega), K_eq hj, key i (by omega), key j hj]
  have hl := hI.length
  by_cases e : i = j
  · rw [e]; exact Int.le_refl _
  · have := List.pairwise_iff_getElem.mp hp i j (by omega) (by omega) (by omega)
    rw [List.getD_eq_getElem?_getD, List.getD_eq_getElem?_getD, List.getElem?_eq_getElem (by omega), List.getElem?_eq_getElem (by omega)]
    exact this
theorem sort_up {a : Addr} {vs : List Value} {ns : List Int} {n : Nat} {P : Fin → Shared → Prop} (o1 : s.heap.get? a = some (seqObj "list" vs.toArray n)) (hI : IntsAre vs ns) (z : vs.length = 64) (hp : ns.Pairwise (· ≤ ·))
    (q : ∀ (out : Array Value) (ms : List Int), IntsAre out.toList ms → ms.Perm ns → ms.Pairwise (· ≤ ·) → P (.done (.ret .none)) { s with heap := sortedHeap s.heap a vs out }) :
    wpAny (model prog w) A (Builtin.«list.sort» ⟨[.ref a], []⟩) P E s := by
  rw [list_sort_plain]
  have lt : a < s.heap.objs.size := Heap.lt_size o1
  refine wpAny_bind (listItems_at o1 rfl (wpAny_bind (listUpdate_at o1 rfl ?_)))
  have o2 := get?_update_seq o1 (fun _ => #[])
  refine wpAny_bind (seqEpoch_at o2 rfl (wpAny_bind (wpAny_newTuple (wpAny_bind (wpAny_newList (wpAny_holding ?_))))))
  have o3 : (((s.heap.update a (Obj.mapSeq fun _ => #[])).push (seqObj "tuple" vs.toArray 0)).push (seqObj "list" #[] 0)).get? a = some (seqObj "list" #[] (if (#[] : Array Value).size == vs.toArray.size then n else n + 1)) := by
    rw [Heap.get?_push_ne _ _ _ (by rw [size_push', Heap.size_update]; exact Nat.ne_of_lt (Nat.lt_succ_of_lt lt)), Heap.get?_push_ne _ _ _ (by rw [Heap.size_update]; exact Nat.ne_of_lt lt)]
    exact o2
  show wpAny (model prog w) A _ P E { s with heap := (((s.heap.update a (Obj.mapSeq fun _ => #[])).push (seqObj "tuple" vs.toArray 0)).push (seqObj "list" #[] 0)) }
  have zv : ¬ vs.toArray.size < 2 := by rw [List.size_toArray, z]; decide
  dsimp only
  rw [if_neg zv, if_neg zv]
  obtain ⟨x, y, t, rfl⟩ : ∃ x y t, vs = x :: y :: t := by
    match vs, z with
    | x :: y :: t, _ => exact ⟨x, y, t, rfl⟩
  rw [keyKind_ints hI]
  refine wpAny_bind (wpAny_pure ?_)
  refine wpAny_bind (wpAny_mono (runs_up (b₀ := pairsOf (x :: y :: t)) (st := SortSt.mk' oneType' (pairsOf (x :: y :: t)) #[] 7 none) (Q := fun _ u => (arrOf u).Perm (pairsOf (x :: y :: t)) ∧ failedOf u = none ∧ SortedTo (arrOf u) (pairsOf (x :: y :: t)).size)
    hI.intKeys ⟨Array.Perm.refl _, rfl, rfl, rfl⟩ ((pairsOf_size _).trans z) (pairs_up hI hp) fun u a1 a2 a3 => ⟨a1, a2, a3⟩) ?_ fun _ _ e => e)
  rintro ⟨⟨⟩, u⟩ s' ⟨rfl, p1, p2, p3⟩
  dsimp only
  refine wpAny_bind (seqEpoch_at o3 rfl ?_)
  refine wpAny_bind (listUpdate_at o3 rfl ?_ (hsz2 := Nat.le_trans (Nat.le_of_eq ((Array.size_map ..).trans (p1.size_eq.trans ((pairsOf_size _).trans z)))) (by rw [sizeLine_eq]; decide)))
  rw [p2]
  simp only [bne_self_eq_false, Bool.false_eq_true, if_false]
  obtain ⟨ms, m1, m2, m3⟩ := sorted_out hI p1 p3
  exact wpAny_pure (q _ ms m1 m2 m3)
theorem sorted_up {l : Addr} {vs : List Value} {ns : List Int} {Q : Value → Shared → Prop} (hl : s.heap.IsList l vs.toArray) (hI : IntsAre vs ns) (z : vs.length = 64) (hp : ns.Pairwise (· ≤ ·))
    (q : ∀ (out : Array Value) (ms : List Int), IntsAre out.toList ms → ms.Perm ns → ms.Pairwise (· ≤ ·) → Q (.ref (s.heap.objs.size + 1)) { s with heap := sortedAll s.heap vs out }) :
    wpAny (model prog w) A (call (.builtin "sorted") [.ref l]) Q E s := by
  refine Calls.call_function_entry kind_sorted plain_sorted entry_sorted (args_sorted1 _) ?_
  unfold Builtin.«sorted»
  have fit : vs.length ≤ sizeLine := by rw [z, sizeLine_eq]; decide
  refine wpAny_bind (m := checkCount "sorted" 1 1 _) (wpAny_pure (wpAny_bind (collect_list hl (wpAny_bind (wpAny_newList ?_ fit)) fit)))
  generalize hh : (s.heap.push (seqObj "list" #[] 0)).update s.heap.objs.size (Obj.mapSeq (· ++ vs.toArray)) = h1
  have e1 : h1.objs.size = s.heap.objs.size + 1 := by rw [← hh, Heap.size_update, size_push']
  have oL : (h1.push (seqObj "list" vs.toArray 0)).get? (s.heap.objs.size + 1) = some (seqObj "list" vs.toArray 0) := by rw [← e1]; exact Heap.get?_push_size _ rfl
  show wpAny _ _ _ _ _ { s with heap := h1.push (seqObj "list" vs.toArray 0) }
  rw [e1]
  refine wpAny_bind (wpAny_holding (wpAny_call_entry slot_list_sort ⟨_, oL, rfl⟩ entry_list_sort (sort_up oL hI z hp fun out ms a1 a2 a3 => ⟨_, rfl, wpAny_pure ⟨_, rfl, ?_⟩⟩) (args_list_sort _)))
  have := q out ms a1 a2 a3
  unfold sortedAll at this
  rw [hh] at this
  exact this
end
end FxS

set_option genSizeOf false
set_option genInjectivity false
namespace L2
open PySem PySem.Spec PyProof.Rows
section
variable {X : Cx}
theorem call_sortedX (K : PySem.W.Frag) (hK : X.K = K) : CallR X (.builtin "sorted") (fun xs H Q => ∃ (p : Addr) (ns : List Int), xs = [.ref p] ∧ SqL K H p (ns.map V.int) ∧ (ns.length < 64 ∨ ns.length = 64 ∧ ns.Pairwise (· ≤ ·)) ∧ ∀ (D : Addr) (ms : List Int), H D = none → ms.Perm ns → ms.Pairwise (· ≤ ·) → Q (.ref D) (upd H D (.lst (ms.map V.int)))) := by
  subst hK
  intro pins s σ H xs us Q I r h
  obtain ⟨p, ns, rfl, hq, h64, q⟩ := h
  obtain ⟨u, rfl, ru⟩ := vals1 r
  cases ru
  obtain ⟨its, rv, pl, hz⟩ := I.list hq
  have hi := intsAre_of rv
  have hl := hi.length
  have fin : ∀ (out : Array Value) (ms : List Int), IntsAre out.toList ms → ms.Perm ns → ms.Pairwise (· ≤ ·) → EP X pins σ Q (.ref (s.heap.objs.size + 1)) { s with heap := sortedAll s.heap its out } := fun out ms a1 a2 a3 => by
    obtain ⟨e, he⟩ := sortedAll_at s.heap its out
    exact sorted_laid (h1 := s.heap) (tk := s.toks) (d := s.drawn) I (fun _ _ z => z) (fun _ _ => sortedAll_old) (Nat.le_succ _) he a1 (by rw [a2.length_eq, sizeLine_eq]; omega) fun hf => q _ ms hf a2 a3
  rcases h64 with c | ⟨c, c2⟩
  · exact sorted_ints pl.isList hi (by omega) fin
  · exact FxS.sorted_up pl.isList hi (by omega) c2 fin
end
end L2

set_option genSizeOf false
set_option genInjectivity false
namespace Fk
open PySem L2 Fm PyProof.Rows
section
variable {P : Program} {w : World} {K : PySem.W.Frag} {mg : Str → Option Value} {base : Heap} {cA cC cS cF cR cH : Addr}
theorem cut_to (xs : List V) (n : Nat) (h : n ≤ xs.length) : cutV xs none (some (n : Int)) = xs.take n := by
  unfold cutV
  have e1 : HT.sIx xs.length xs.length (some (n : Int)) = n := by
    unfold HT.sIx
    simp only [if_neg (show ¬ (n : Int) < 0 by omega), Int.toNat_natCast]
    omega
  have e2 : HT.sIx xs.length 0 none = 0 := rfl
  rw [e1, e2]
  rfl
theorem RowV.take {H : Hp} : ∀ {xs : List V} {r : Row} (n : Nat), RowV H xs r → RowV H (xs.take n) (r.take n)
  | _, _, 0, _ => .nil
  | _, _, _ + 1, .nil => .nil
  | _, _, n + 1, .cons a t => .cons a (RowV.take n t)
theorem getD_mem {l : List Int} {i : Nat} (h : i < l.length) : l.getD i 0 ∈ l := by
  rw [List.getD_eq_getElem?_getD, List.getElem?_eq_getElem h]
  exact List.getElem_mem h
theorem mem_getD {l : List Int} {x : Int} (h : x ∈ l) : ∃ i, i < l.length ∧ l.getD i 0 = x := by
  obtain ⟨i, hi, e⟩ := List.getElem_of_mem h
  exact ⟨i, hi, by rw [List.getD_eq_getElem?_getD, List.getElem?_eq_getElem hi]; exact e⟩
theorem getD_mem' {l : List Bool} {i : Nat} (h : i < l.length) : l.getD i false ∈ l := by
  rw [List.getD_eq_getElem?_getD, List.getElem?_eq_getElem h]
  exact List.getElem_mem h
theorem mem_getD' {l : List Bool} {x : Bool} (h : x ∈ l) : ∃ i, i < l.length ∧ l.getD i false = x := by
  obtain ⟨i, hi, e⟩ := List.getElem_of_mem h
  exact ⟨i, hi, by rw [List.getD_eq_getElem?_getD, List.getElem?_eq_getElem hi]; exact e⟩
theorem any_fil {c b : Nat → Bool} {n : Nat} : (((List.range n).filter c).map b).any id = true ↔ ∃ i, i < n ∧ c i = true ∧ b i = true := by
  rw [List.any_eq_true]
  constructor
  · rintro ⟨x, hx, e⟩
    obtain ⟨i, hi, rfl⟩ := List.mem_map.mp hx
    obtain ⟨h1, h2⟩ := List.mem_filter.mp hi
    exact ⟨i, List.mem_range.mp h1, h2, e⟩
  · rintro ⟨i, h1, h2, h3⟩
    exact ⟨_, List.mem_map.mpr ⟨i, List.mem_filter.mpr ⟨List.mem_range.mpr h1, h2⟩, rfl⟩, h3⟩
theorem ixN_nat {n k : Nat} (h : k < n) : ixN n (k : Int) = some k := by
  unfold ixN
  rw [if_pos (by omega), if_pos (by omega)]
  rfl
theorem nd_le : ∀ {ms ss : List Int}, ms.Nodup → (∀ k, k ∈ ms → k ∈ ss) → ms.length ≤ ss.length
  | [], _, _, _ => Nat.zero_le _
  | m :: t, ss, h, hs => by
    obtain ⟨h1, h2⟩ := List.nodup_cons.mp h
    have hm := hs m List.mem_cons_self
    have := nd_le (ss := ss.erase m) h2 fun k hk => (List.mem_erase_of_ne fun (e : k = m) => h1 (e ▸ hk)).mpr (hs k (List.mem_cons_of_mem _ hk))
    rw [List.length_erase_of_mem hm] at this
    have : 0 < ss.length := List.length_pos_of_mem hm
    rw [List.length_cons]
    omega
theorem rise_of {ss ms : List Int} (h : ss.Pairwise (· ≤ ·)) (hn : ms.Nodup) (hm : ∀ k, k ∈ ms ↔ k ∈ ss) (hl : ¬ ms.length < ss.length) : ss.Pairwise (· < ·) := by
  rw [List.pairwise_iff_getElem] at h ⊢
  intro i j hi hj hij
  have h1 := h i j hi hj hij
  by_cases c : ss[i] < ss[j]
  · exact c
  · exfalso
    have e : ss[i] = ss[j] := by omega
    have := nd_le (ss := ss.eraseIdx j) hn fun k hk => by
      obtain ⟨m, hm1, rfl⟩ := List.getElem_of_mem ((hm k).mp hk)
      rw [List.mem_eraseIdx_iff_getElem]
      by_cases d : m = j
      · subst d; exact ⟨i, hi, by omega, e⟩
      · exact ⟨m, hm1, d, rfl⟩
    rw [List.length_eraseIdx_of_lt hj] at this
    omega
theorem not_rise {ss ms : List Int} (hm : ∀ k, k ∈ ms ↔ k ∈ ss) (hl : ms.length < ss.length) : ¬ ss.Pairwise (· < ·) := fun h => by
  have := nd_le (ms := ss) (ss := ms) (h.imp fun z => Int.ne_of_lt z) fun k hk => (hm k).mpr hk
  omega
theorem sorted_same {ss ms : List Int} (hp : ms.Perm ss) (hs : ms.Pairwise (· ≤ ·)) : decide (ss = ms) = decide (ss.Pairwise (· ≤ ·)) := by
  rw [Bool.eq_iff_iff, decide_eq_true_eq, decide_eq_true_eq]
  constructor
  · intro e; rw [e]; exact hs
  · intro h
    exact (hp.eq_of_pairwise (fun a b _ _ h1 h2 => Int.le_antisymm h1 h2) hs h).symm
noncomputable def spLRights (K : PySem.W.Frag) : Sp := fun vs H Q _ => ∃ a l r ss, vs = [.ref a, .ref l] ∧ RowOk H a r ∧ H l = some (.lst (ss.map V.int)) ∧ (ss.length < 64 ∨ ss.length = 64 ∧ ss.Pairwise (· ≤ ·)) ∧ ∀ H', Same H H' → Q (.bl (decide (ss = unk r))) H'
theorem sc_law_rights : FnScope ["_law_row_here", "_law_stones", "_law_met", "_law_stone", "_law_other"] ["_law_row_here", "_law_stones"] (defScope s_law_rights) := ⟨rfl, rfl, rfl, by decide +kernel, rfl, by decide +kernel, by decide +kernel⟩
theorem ok_LRights {f : Addr} {fd : FuncData} (F : Fun K "_law_rights" "_law_rights" s_law_rights f fd) (B : Blt mg) (d_law_felled : Dfn P w K mg base "_law_felled" 1 ["_law_row_here", "_law_stone", "_law_side"] (spLFelled)) : FnOk P w K mg base CX0 2 f fd ["_law_row_here", "_law_stones"] (spLRights K) := by
  refine F.ok sc_law_rights (fun vs H Q E h => ?_) (fun cdv A outer s H vs Q E hr h => ?_)
  · obtain ⟨a, l, r, ss, rfl, _⟩ := h
    rfl
  · obtain ⟨a, l, r, ss, rfl, R, hl, h64, q⟩ := h
    obtain ⟨⟨xs, ha, hx⟩, g, hle⟩ := id R
    have hlen := hx.length
    have hu0 := hr.units
    have no : ¬ ss = unk r → ∀ H', Same H H' → Q (.bl false) H' := fun hn H' s' => by
      have := q H' s'
      rw [decide_eq_false hn] at this
      exact this
    refine ⟨_, (pss_cons (ps_cut (ps_if (PW.pt (pw_or (pt_cmpR (op_neL hu0) (pv 1) (pe_callB (call_sortedX K rfl) (by rfl) B.b_sorted boot_sorted (pa_cons (pv 1) pa_nil)) (nomark _)) (pw_or (pt_cmpR op_lt (pe_callB call_lenS (by rfl) B.b_len boot_len (pa_cons (pe_callTy (call_setL rfl) (by rfl) B.b_set boot_set (pa_cons (pv 1) pa_nil)) pa_nil)) (pe_callB (call_len_seqK K rfl) (by rfl) B.b_len boot_len (pa_cons (pv 1) pa_nil)) (nomark _)) (pw_or1 (pt_val (pe_callB (call_anyB rfl) (by rfl) B.b_any boot_any (pa_cons (pe_comp rfl (cap := [(0, "_law_row_here")]) (own := ["_law_one"]) (CompOk.of (outer := defScope s_law_rights) (N := ["_law_row_here", "_law_stones", "_law_met", "_law_stone", "_law_other"]) rfl rfl (by decide +kernel)) (pi_list (pv 1)) (fun _ _ _ _ => ⟨(pg_name (i := 1) (show List.Nodup (["_law_row_here", "_law_one"] : List Str) by decide +kernel) rfl (Or.inl rfl)), pf_nil, (pe_not (pe_chain op_le op_lt pe_int (pv 1) (pe_callB (call_len_seqK K rfl) (by rfl) B.b_len boot_len (pa_cons (pv 0) pa_nil))))⟩)) pa_nil)))))))
        (pss_one (ps_ret pe_bl))
        pss_nil))
      (pss_cons (ps_setComp (i := 2) rfl (hN := sc_law_rights.nd) (hiN := rfl) (hy := (Or.inl rfl)) (cap := []) (own := ["_law_stone"]) (O := (CompOk.of (outer := defScope s_law_rights) (N := ["_law_row_here", "_law_stones", "_law_met", "_law_stone", "_law_other"]) rfl rfl (by decide +kernel))) (pi_list (pv 0)) (fun _ _ _ _ => ⟨(pg_name (i := 0) (show List.Nodup (["_law_stone"] : List Str) by decide +kernel) rfl (Or.inl rfl)), pf_nil, pe_bl⟩))
      (pss_cons (ps_for PassesOwn.never rfl (pi_list (pv 1)) (pg_name (i := 3) sc_law_rights.nd rfl (Or.inr rfl))
        (pss_cons (ps_for PassesOwn.never rfl (pi_range2 rfl B.b_range (pa_cons (pv 3) (pa_cons (pe_op op_add (pe_callD d_law_felled (hr.mono (by decide)) (by rfl) (pa_cons (pv 0) (pa_cons (pv 3) (pa_cons pe_int pa_nil)))) pe_int) pa_nil))) (pg_name (i := 4) sc_law_rights.nd rfl (Or.inl rfl))
          (pss_one (ps_asg pe_bl (pg_sub (pv 2) (pv 4) set_list))))
        (pss_one (ps_if (pt_val (pe_callB (call_anyB rfl) (by rfl) B.b_any boot_any (pa_cons (pe_comp rfl (cap := [(0, "_law_row_here"), (3, "_law_stone")]) (own := ["_law_place", "_law_height"]) (CompOk.of (outer := defScope s_law_rights) (N := ["_law_row_here", "_law_stones", "_law_met", "_law_stone", "_law_other"]) rfl rfl (by decide +kernel)) (pi_list (pe_slice (sl_listK K rfl) (pv 0) po_none (po_some (pv 3)))) (fun _ _ _ _ => ⟨(pg_tupK (n := 2) K rfl rfl (pgs_cons (pg_name (i := 2) (show List.Nodup (["_law_row_here", "_law_stone", "_law_place", "_law_height"] : List Str) by decide +kernel) rfl (Or.inl rfl)) (pgs_cons (pg_name (i := 3) (show List.Nodup (["_law_row_here", "_law_stone", "_law_place", "_law_height"] : List Str) by decide +kernel) rfl (Or.inl rfl)) pgs_nil))), pf_nil, (pe_cmpR op_le (pe_op op_sub (pe_ix (ix_tupK K rfl) (pe_ix (ix_listK K rfl) (pv 0) (pv 1) (fun _ _ => rfl)) pe_int (fun _ _ => rfl)) (pv 2)) (pv 3) (nomark _))⟩)) pa_nil)))
          (pss_one (ps_ret pe_bl))
          pss_nil))))
      (pss_one (ps_ret (pe_callB (call_allB rfl) (by rfl) B.b_all boot_all (pa_cons (pv 2) pa_nil))))))), ?_⟩
    refine ⟨fun σ' H' => σ' = [some (.ref a), some (.ref l), none, none, none] ∧ Same H H' ∧ ss.Pairwise (· < ·) ∧ ∀ x, x ∈ ss → 0 ≤ x ∧ x < (r.length : Int), ?_, ?_⟩
    · refine ⟨_, rfl, _, rfl, l, ss, rfl, SqL.of hl, h64, fun D1 ms n1 pm pw => ⟨l, D1, _, rfl, rfl, .iL (SqL.of ((Same.upd n1) _ _ hl)) (SqL.of upd_same), _, rfl, ?_⟩⟩
      rw [sorted_same pm pw]
      have s1 := Same.upd (o := .lst (ms.map V.int)) n1
      generalize L2.upd H D1 (.lst (ms.map V.int)) = H1 at s1 ⊢
      by_cases c1 : ss.Pairwise (· ≤ ·)
      · rw [decide_eq_true c1]
        refine iteF ⟨_, rfl, l, ss, rfl, SqL.of (s1 _ _ hl), by omega, fun a2 ms2 n2 nd2 hm2 hl2 => ⟨a2, ms2, rfl, upd_same, _, rfl, l, _, rfl, .inl (SqL.of ((Same.upd n2) _ _ (s1 _ _ hl))), rd_op ⟨_, rfl, ?_⟩⟩⟩
        have s2 := s1.trans (Same.upd (o := setO P w a2 ms2) n2)
        by_cases c2 : ms2.length < ss.length
        · rw [decide_eq_true (show ((ms2.length : Nat) : Int) < (((ss.map V.int).length : Nat) : Int) by rw [List.length_map]; omega)]
          exact iteT (iteT (no (fun e => not_rise hm2 c2 (e ▸ unk_rise r)) _ s2))
        · rw [decide_eq_false (show ¬ ((ms2.length : Nat) : Int) < (((ss.map V.int).length : Nat) : Int) by rw [List.length_map]; omega)]
          have up := rise_of c1 nd2 hm2 c2
          refine iteF ⟨_, rfl, l, rfl, ⟨_, SqL.of (s2 _ _ hl)⟩, comp_fil (J := Itl K l) (n := ss.length) (fun _ => true) (fun i => .bl (!(decide (0 ≤ ss.getD i 0) && decide (ss.getD i 0 < (r.length : Int))))) (by omega) ?_ ?_ ?_ ?_⟩
          · exact fun i H' s' hi => ⟨_, _, SqL.of ((s2.trans s') _ _ hl), ints_at hi⟩
          · exact fun H' s' => ⟨_, SqL.of ((s2.trans s') _ _ hl), by simp⟩
          · rintro i x H' H3 Q1 Q2 hi s' ⟨rfl, y⟩ q1 q2
            obtain ⟨_, rfl⟩ := ints_get (y _ (SqL.of ((s2.trans s') _ _ hl)))
            have q1' := q1 rfl H3 fun _ _ z => z
            refine ⟨⟨rfl, rfl⟩, _, rfl, rd_op ⟨_, rfl, ?_⟩⟩
            by_cases c : 0 ≤ ss.getD i 0
            · rw [decide_eq_true c] at q1' ⊢
              refine iteT ⟨_, rfl, a, xs, rfl, .inl (SqL.of ((s2.trans s') _ _ ha)), rd_op ⟨_, rfl, ?_⟩⟩
              rw [hlen]
              exact q1'
            · rw [decide_eq_false c] at q1' ⊢
              exact iteF ⟨_, rfl, q1'⟩
          · intro D3 H3 n3 s3 e3
            rw [fil_bl] at e3
            refine ⟨D3, _, rfl, SqL.of e3, _, rfl, ?_⟩
            by_cases c3 : ∀ x, x ∈ ss → 0 ≤ x ∧ x < (r.length : Int)
            · have e : (((List.range ss.length).filter fun _ => true).map fun i => !(decide (0 ≤ ss.getD i 0) && decide (ss.getD i 0 < (r.length : Int)))).any id = false := by
                rw [Bool.eq_false_iff]
                intro z
                obtain ⟨i, hi, _, z⟩ := any_fil.mp z
                obtain ⟨c4, c5⟩ := c3 _ (getD_mem hi)
                rw [decide_eq_true c4, decide_eq_true c5] at z
                cases z
              rw [e]
              exact iteF ⟨rfl, s2.trans s3, up, c3⟩
            · have e : (((List.range ss.length).filter fun _ => true).map fun i => !(decide (0 ≤ ss.getD i 0) && decide (ss.getD i 0 < (r.length : Int)))).any id = true := by
                by_cases d : ∃ x, x ∈ ss ∧ ¬ (0 ≤ x ∧ x < (r.length : Int))
                · obtain ⟨x, hx1, hx2⟩ := d
                  obtain ⟨i, hi, rfl⟩ := mem_getD hx1
                  refine any_fil.mpr ⟨i, hi, rfl, ?_⟩
                  by_cases c4 : 0 ≤ ss.getD i 0
                  · rw [decide_eq_true c4, decide_eq_false fun z => hx2 ⟨c4, z⟩]
                    rfl
                  · rw [decide_eq_false c4]
                    rfl
                · exact absurd (fun x hx1 => Decidable.byContradiction fun z => d ⟨x, hx1, z⟩) c3
              rw [e]
              refine iteT (no (fun e => c3 fun x hx1 => ?_) _ (s2.trans s3))
              rw [e] at hx1
              obtain ⟨k, rfl, hk, _⟩ := mem_unk.mp hx1
              omega
      · rw [decide_eq_false c1]
        exact iteT (iteT (no (fun e => c1 (e ▸ (unk_rise r).imp fun z => Int.le_of_lt z)) _ s1))
    rintro σ' H1 ⟨rfl, s1, up, inr⟩
    have hl1 := s1 _ _ hl
    have ha1 := s1 _ _ ha
    have hx1 := RowV.same s1 hx
    have R1 := R.same s1
    refine ⟨_, rfl, a, rfl, ⟨_, SqL.of ha1⟩, comp_fil (J := Itl K a) (n := r.length) (fun _ => true) (fun _ => .bl false) hle ?_ ?_ ?_ ?_⟩
    · intro i H' s' hi
      obtain ⟨t, x1, _⟩ := hx.get hi
      exact ⟨_, _, SqL.of (s' _ _ ha1), x1⟩
    · exact fun H' s' => ⟨_, SqL.of (s' _ _ ha1), by omega⟩
    · rintro i x H' H3 Q1 Q2 hi s' ⟨rfl, y⟩ q1 q2
      exact ⟨⟨rfl, rfl⟩, q1 rfl _ fun _ _ z => z⟩
    intro lm H2 nm s2 em
    have em' : H2 lm = some (.lst ((List.replicate r.length false).map V.bl)) := by
      rw [em, fil_all, List.map_replicate, List.map_const', List.length_range]
    clear em
    refine ⟨_, rfl, l, rfl, ⟨_, SqL.of (s2 _ _ hl1)⟩, for_list (K := K) (a := l) (xs := ss.map V.int) (fun i σ H3 => ∃ (v3 v4 : Option V) (bs : List Bool), σ = [some (.ref a), some (.ref l), some (.ref lm), v3, v4] ∧ Same H1 H3 ∧ H3 lm = some (.lst (bs.map V.bl)) ∧ bs.length = r.length ∧
      (∀ x, x < r.length → (bs.getD x false = true ↔ ∃ j k : Nat, j < i ∧ ss.getD j 0 = (k : Int) ∧ k ≤ x ∧ x < fs r k)) ∧ ∀ j, j < i → unr r (ss.getD j 0).toNat = true) ⟨none, none, _, rfl, s2, em', by simp, fun x hx => ?_, fun j hj => absurd hj (Nat.not_lt_zero _)⟩ (fun i σ H3 _ ⟨_, _, _, _, s3, _⟩ => SqL.of (s3 _ _ hl1)) ?_ ?_⟩
    · rw [List.getD_eq_getElem?_getD, List.getElem?_replicate, if_pos hx]
      exact ⟨(fun z => nomatch z), fun ⟨j, _, hj, _⟩ => absurd hj (Nat.not_lt_zero _)⟩
    · rintro i x σ H3 hi ⟨v3, v4, bs, rfl, s3, e3, bl, hbs, hun⟩
      obtain ⟨hil, rfl⟩ := ints_get hi
      obtain ⟨k, ek, hk⟩ : ∃ k : Nat, ss.getD i 0 = (k : Int) ∧ k < r.length := by
        obtain ⟨z1, z2⟩ := inr _ (getD_mem hil)
        exact ⟨(ss.getD i 0).toNat, by omega, by omega⟩
      rw [ek]
      have f1 := lt_fs r k
      have f2 := fs_le hk
      refine ⟨_, rfl, _, rfl, _, rfl, a, r, k, rfl, R1.at_.same s3, hle, hk, fun H4 s4 => rd_op ⟨(k : Int), _, rfl, ⟨by omega, by omega, by omega, by omega⟩, ?_⟩⟩
      have en : (((fs r k - 1 : Nat) : Int) + 1 - (k : Int)).toNat = fs r k - k := by omega
      rw [en]
      refine for_range (fun j σ H5 => ∃ (v4 : Option V) (cs : List Bool), σ = [some (.ref a), some (.ref l), some (.ref lm), some (.int (k : Int)), v4] ∧ Same H1 H5 ∧ H5 lm = some (.lst (cs.map V.bl)) ∧ cs.length = r.length ∧ ∀ x, x < r.length → (cs.getD x false = true ↔ bs.getD x false = true ∨ k ≤ x ∧ x < k + j)) ⟨v4, bs, rfl, s3.trans s4, s4 _ _ e3, bl, fun x hx => ⟨.inl, fun z => z.elim id fun z => by omega⟩⟩ ?_ ?_
      · rintro j σ H5 hj ⟨v4, cs, rfl, s5, e5, cl, hcs⟩
        refine ⟨_, rfl, _, rfl, lm, _, _, k + j, rfl, rfl, e5, ?_, _, cs.set (k + j) true, rfl, s5.upd' nm, by rw [upd_same, List.map_set], by rw [List.length_set]; exact cl, fun x hx => ?_⟩
        · have := ixN_nat (n := (cs.map V.bl).length) (k := k + j) (by rw [List.length_map]; omega)
          exact this
        · rw [List.getD_eq_getElem?_getD, List.getElem?_set]
          by_cases c : k + j = x
          · rw [if_pos c, if_pos (by omega)]
            exact ⟨fun _ => .inr (by omega), fun _ => rfl⟩
          · rw [if_neg c, ← List.getD_eq_getElem?_getD, hcs x hx]
            constructor
            · rintro (z | z)
              · exact .inl z
              · exact .inr (by omega)
            · rintro (z | z)
              · exact .inl z
              · exact .inr (by omega)
      · rintro σ H5 ⟨v4, cs, rfl, s5, e5, cl, hcs⟩
        obtain ⟨tk, xk, hk5⟩ := hx1.get hk
        refine ⟨_, rfl, _, rfl, _, rfl, a, xs, rfl, SqL.of (s5 _ _ ha1), fun p np => ⟨p, rfl, ⟨_, SqL.of upd_same⟩, ?_⟩⟩
        have ec := cut_to xs k (by omega)
        rw [ec]
        have s6 := Same.upd (o := .lst (xs.take k)) np
        have e6 : (L2.upd H5 p (.lst (xs.take k))) p = some (.lst (xs.take k)) := upd_same
        generalize L2.upd H5 p (.lst (xs.take k)) = H6 at s6 e6 ⊢
        have s16 := s5.trans s6
        have zt : (xs.take k).length = k := by rw [List.length_take]; omega
        refine comp_fil (J := Itl K p) (n := k) (fun _ => true) (fun j => .bl (decide (pl r k - pl r j ≤ ht r j))) (by omega) ?_ ?_ ?_ ?_
        · intro j H' s' hj
          exact ⟨_, _, SqL.of (s' _ _ e6), List.getElem?_eq_getElem (by omega)⟩
        · exact fun H' s' => ⟨_, SqL.of (s' _ _ e6), by omega⟩
        · rintro j x H' H7 Q1 Q2 hj s' ⟨rfl, y⟩ q1 q2
          obtain ⟨tj, xj, hj5⟩ := hx1.get (show j < r.length by omega)
          have yx := y _ (SqL.of (s' _ _ e6))
          rw [List.getElem?_take, if_pos hj, xj] at yx
          cases yx
          have s17 := s16.trans s'
          exact rd_tup2 (SqT.of (s17 _ _ hj5)) ⟨⟨rfl, rfl⟩, rd_rix rfl rfl (SqL.of (s17 _ _ ha1)) (atI_nat xk) (SqT.of (s17 _ _ hk5)) rfl ⟨_, rfl, rd_op ⟨_, rfl, rd_op (q1 rfl _ fun _ _ z => z)⟩⟩⟩
        · intro D8 H8 n8 s8 e8
          rw [fil_bl] at e8
          refine ⟨D8, _, rfl, SqL.of e8, _, rfl, ?_⟩
          by_cases c : unr r k = true
          · have e : (((List.range k).filter fun _ => true).map fun j => decide (pl r k - pl r j ≤ ht r j)).any id = false := by
              rw [Bool.eq_false_iff]
              intro z
              obtain ⟨j, hj, _, z⟩ := any_fil.mp z
              have z := of_decide_eq_true z
              have := unr_iff.mp c j hj
              omega
            rw [e]
            refine iteF ⟨_, _, cs, rfl, s16.trans s8, (s6.trans s8) _ _ e5, cl, fun x hx => ?_, fun j hj => ?_⟩
            · rw [hcs x hx, hbs x hx]
              constructor
              · rintro (⟨j, k', z1, z2⟩ | z)
                · exact ⟨j, k', by omega, z2⟩
                · exact ⟨i, k, by omega, ek, z.1, by omega⟩
              · rintro ⟨j, k', z1, z2, z3, z4⟩
                by_cases d : j = i
                · subst d
                  have : k' = k := by omega
                  subst this
                  exact .inr (by omega)
                · exact .inl ⟨j, k', by omega, z2, z3, z4⟩
            · by_cases d : j = i
              · subst d
                rw [ek]
                exact c
              · exact hun j (by omega)
          · have e : (((List.range k).filter fun _ => true).map fun j => decide (pl r k - pl r j ≤ ht r j)).any id = true := by
              by_cases d : ∃ j, j < k ∧ ¬ pl r j + ht r j < pl r k
              · obtain ⟨j, j1, j2⟩ := d
                exact any_fil.mpr ⟨j, j1, rfl, decide_eq_true (by omega)⟩
              · exact absurd (unr_iff.mpr fun j hj => Decidable.byContradiction fun z => d ⟨j, hj, z⟩) c
            rw [e]
            refine iteT (no (fun e => c ?_) _ (s1.trans (s16.trans s8)))
            have hm := getD_mem (l := ss) hil
            rw [ek, e] at hm
            obtain ⟨k', e', _, hu⟩ := mem_unk.mp hm
            have : k = k' := by omega
            rw [this]
            exact hu
    · rintro σ H3 ⟨v3, v4, bs, rfl, s3, e3, bl, hbs, hun⟩
      rw [List.length_map] at hbs hun
      refine ⟨_, rfl, lm, bs, rfl, SqL.of e3, ?_⟩
      have q3 := q H3 (s1.trans s3)
      have e : decide (ss = unk r) = bs.all id := by
        rw [Bool.eq_iff_iff, decide_eq_true_eq, List.all_eq_true]
        constructor
        · intro e b hb
          obtain ⟨x, hx, rfl⟩ := mem_getD' hb
          obtain ⟨s, z1, z2, z3⟩ := cover g x x (Nat.le_refl _) (by omega)
          have hm : (s : Int) ∈ ss := by rw [e]; exact mem_unk.mpr ⟨s, rfl, by omega, z3⟩
          obtain ⟨j, hj, ej⟩ := mem_getD hm
          exact (hbs x (by omega)).mpr ⟨j, s, hj, ej, z1, z2⟩
        · intro h
          refine unk_of up (fun x hx => ?_) fun x hx => ?_
          · obtain ⟨z1, z2⟩ := inr x hx
            obtain ⟨j, hj, rfl⟩ := mem_getD hx
            exact ⟨(ss.getD j 0).toNat, by omega, by omega, hun j hj⟩
          · have hb : bs.getD x false = true := h _ (getD_mem' (by omega))
            obtain ⟨j, k, z1, z2, z3, z4⟩ := (hbs x hx).mp hb
            exact ⟨k, by rw [← z2]; exact getD_mem z1, z3, z4⟩
      rw [e] at q3
      exact q3
end
end Fk

set_option genSizeOf false
set_option genInjectivity false
namespace Fk
open PySem L2 Fm PyProof.Rows
section
variable {P : Program} {w : World} {K : PySem.W.Frag} {mg : Str → Option Value} {base : Heap} {cA cC cS cF cR cH : Addr}
theorem nats_at {es : List Nat} {k e : Nat} (h : es[k]? = some e) : (nats es)[k]? = some (.int (e : Int)) := by unfold nats; rw [List.getElem?_map, h]; rfl
theorem nats_set (es : List Nat) (k e : Nat) : (nats es).set k (.int (e : Int)) = nats (es.set k e) := by unfold nats; rw [List.map_set]
theorem nats_len (es : List Nat) : (nats es).length = es.length := by unfold nats; rw [List.length_map]
noncomputable def rends (r : Row) : List Nat := (List.range r.length).map fun k => fs r k - 1
theorem rends_at {r : Row} {k : Nat} (h : k < r.length) : (rends r)[k]? = some (fs r k - 1) := by unfold rends; rw [List.getElem?_map, List.getElem?_range h]; rfl
theorem rends_len (r : Row) : (rends r).length = r.length := by unfold rends; rw [List.length_map, List.length_range]
theorem rends_of {r : Row} {es : List Nat} (h1 : es.length = r.length) (h2 : ∀ k, k < r.length → es[k]? = some (fs r k - 1)) : es = rends r := by
  apply List.ext_getElem?
  intro i
  by_cases c : i < r.length
  · rw [h2 i c, rends_at c]
  · rw [List.getElem?_eq_none (by omega), List.getElem?_eq_none (by rw [rends_len]; omega)]
noncomputable def spREnds : Sp := fun vs H Q _ => ∃ a r, vs = [.ref a] ∧ RowOk H a r ∧ ∀ l H', H l = none → Same H H' → H' l = some (.lst (nats (rends r))) → Q (.ref l) H'
theorem sc_right_ends : FnScope ["row", "ends", "k", "end"] ["row"] (defScope s_right_ends) := ⟨rfl, rfl, rfl, by decide +kernel, rfl, by decide +kernel, by decide +kernel⟩
theorem ok_rends {f : Addr} {fd : FuncData} {tR tL : Tok} (F : Fun K "right_ends" "right_ends" s_right_ends f fd) (B : Blt mg) (C : Cst mg tR tL) (d_reach : Dfn P w K mg base "reach" 1 ["row", "stone", "side"] (spReach)) : FnOk P w K mg base CX0 2 f fd ["row"] (spREnds) := by
  refine F.ok sc_right_ends (fun vs H Q E h => ?_) (fun cdv A outer s H vs Q E hr h => ?_)
  · obtain ⟨a, r, rfl, _⟩ := h
    rfl
  · obtain ⟨a, r, rfl, R, q⟩ := h
    obtain ⟨⟨xs, ha, hx⟩, g, hle⟩ := id R
    have hlen := hx.length
    refine ⟨_, (pss_cons (ps_set (i := 1) sc_right_ends.nd rfl (Or.inl rfl) (pe_callTy (call_listR rfl) (by rfl) B.b_list boot_list (pa_cons (pe_callTy call_rangeV (by rfl) B.b_range boot_range (pa_cons (pe_callB (call_len_seqK K rfl) (by rfl) B.b_len boot_len (pa_cons (pv 0) pa_nil)) pa_nil)) pa_nil)))
      (pss_cons (ps_for PassesOwn.never rfl (pi_down (by rfl) B.b_range (pa_cons (pe_op op_sub (pe_callB (call_len_seqK K rfl) (by rfl) B.b_len boot_len (pa_cons (pv 0) pa_nil)) pe_int) (pa_cons (pe_un un_neg pe_int) (pa_cons (pe_un un_neg pe_int) pa_nil)))) (pg_name (i := 2) sc_right_ends.nd rfl (Or.inl rfl))
        (pss_cons (ps_set (i := 3) sc_right_ends.nd rfl (Or.inl rfl) (pv 2))
        (pss_cons (ps_while PassesOwn.never (PW.pt (pw_and (pt_cmpR op_lt (pe_op op_add (pv 3) pe_int) (pe_callB (call_len_seqK K rfl) (by rfl) B.b_len boot_len (pa_cons (pv 0) pa_nil)) (nomark _)) (pw_and1 (pt_cmpR op_le (pe_ix (ix_tupK K rfl) (pe_ix (ix_listK K rfl) (pv 0) (pe_op op_add (pv 3) pe_int) (fun _ _ => rfl)) pe_int (fun _ _ => rfl)) (pe_callD d_reach (hr.mono (by decide)) (by rfl) (pa_cons (pv 0) (pa_cons (pv 2) (pa_cons (pe_glob (v := .int 1) rfl C.hR ⟨_, rfl⟩) pa_nil)))) (nomark _)))))
          (pss_one (ps_set (i := 3) sc_right_ends.nd rfl (Or.inl rfl) (pe_ix (ix_listK K rfl) (pv 1) (pe_op op_add (pv 3) pe_int) (fun _ _ => rfl)))))
        (pss_one (ps_asg (pv 3) (pg_sub (pv 1) (pv 2) set_list))))))
      (pss_one (ps_ret (pv 1))))), ?_⟩
    refine ⟨_, rfl, a, xs, rfl, .inl (SqL.of ha), 0, (xs.length : Int), 1, .inl ⟨rfl, rfl, rfl⟩, fun u hu => ⟨u, _, _, _, xs.length, rfl, upd_same, small_ok (by omega) (by omega) (by omega) (by omega), size_ok (by omega), by omega, fun l hl => ?_⟩⟩
    have nl := (Same.upd hu).free hl
    have s1 := (Same.upd (o := rngO u 0 (xs.length : Int) 1) hu).trans (Same.upd (o := .lst ((rngL 0 1 xs.length).map V.int)) hl)
    have e1 : (L2.upd (L2.upd H u (rngO u 0 (xs.length : Int) 1)) l (.lst ((rngL 0 1 xs.length).map V.int))) l = some (.lst (nats (List.range' 0 xs.length))) := by rw [upd_same, ← rng_nats]; rfl
    generalize L2.upd (L2.upd H u (rngO u 0 (xs.length : Int) 1)) l (.lst ((rngL 0 1 xs.length).map V.int)) = H1 at s1 e1 ⊢
    refine ⟨_, rfl, a, xs, rfl, .inl (SqL.of (s1 _ _ ha)), rd_op ⟨_, rfl, _, rfl, xs.length, rfl, by omega, for_down (fun i σ H2 => ∃ (v2 v3 : Option V) (es : List Nat), σ = [some (.ref a), some (.ref l), v2, v3] ∧ Same H H2 ∧ H2 l = some (.lst (nats es)) ∧ es.length = r.length ∧ ∀ k, k < r.length → r.length ≤ k + i → es[k]? = some (fs r k - 1)) ⟨none, none, _, rfl, s1, e1, by rw [List.length_range']; exact hlen, fun k h1 h2 => by omega⟩ ?_ ?_⟩⟩
    · rintro i σ H2 hi ⟨v2, v3, es, rfl, s2, e2, hel, hes⟩
      obtain ⟨k, ek, hki, hk⟩ : ∃ k : Nat, (xs.length : Int) - 1 - (i : Int) = (k : Int) ∧ k + i + 1 = r.length ∧ k < r.length := ⟨xs.length - 1 - i, by omega, by omega, by omega⟩
      rw [ek]
      refine ⟨_, rfl, ?_⟩
      refine ⟨fun m σ H3 => H3 = H2 ∧ ∃ e : Nat, σ = [some (.ref a), some (.ref l), some (.int (k : Int)), some (.int (e : Int))] ∧ Walk r k e ∧ m = r.length - e, ⟨_, rfl, k, rfl, Walk.start r k, rfl⟩, ?_⟩
      rintro m σ H3 ⟨rfl, e, rfl, W, rfl⟩
      have w1 := W.ge
      have w2 := W.fall
      have w3 := fs_le hk
      have fin : (e + 1 < r.length → ¬ pl r (e + 1) ≤ pl r k + ht r k) → ∃ (v2 v3 : Option V) (es' : List Nat), [some (V.ref a), some (V.ref l), some (V.int (k : Int)), some (V.int (e : Int))] = [some (.ref a), some (.ref l), v2, v3] ∧ Same H (L2.upd H3 l (.lst ((nats es).set k (.int (e : Int))))) ∧ (L2.upd H3 l (.lst ((nats es).set k (.int (e : Int))))) l = some (.lst (nats es')) ∧ es'.length = r.length ∧ ∀ j, j < r.length → r.length ≤ j + (i + 1) → es'[j]? = some (fs r j - 1) := by
        intro hno
        have ef := W.done hk hno
        refine ⟨_, _, es.set k e, rfl, s2.upd' nl, by rw [upd_same, nats_set], by rw [List.length_set]; exact hel, fun j h1 h2 => ?_⟩
        by_cases c : j = k
        · subst c
          rw [List.getElem?_set_self (by omega), ef]
          rfl
        · rw [List.getElem?_set_ne (fun z => c z.symm)]
          exact hes j h1 (by omega)
      refine ⟨_, rfl, rd_op (rd_len rfl (SqL.of (s2 _ _ ha)) (rd_op ⟨_, rfl, ?_⟩))⟩
      by_cases c1 : e + 1 < r.length
      · rw [decide_eq_true (show (e : Int) + 1 < (xs.length : Int) by omega)]
        obtain ⟨t, x1, h1⟩ := hx.get c1
        refine iteT ⟨_, rfl, _, rfl, rd_op ⟨a, xs, _, _, rfl, rfl, SqL.of (s2 _ _ ha), atI_cast (j := e + 1) (by omega) x1, t, _, 0, _, rfl, rfl, SqT.of (s2 _ _ h1), rfl, _, rfl, _, rfl, a, r, k, 1, rfl, R.at_.same s2, hk, .inl rfl, rd_op ⟨_, rfl, ?_⟩⟩⟩
        by_cases c2 : pl r (e + 1) ≤ pl r k + ht r k
        · rw [decide_eq_true (show (r.getD (e + 1) (0, 0)).1 ≤ pl r k * 1 + ht r k by rw [Int.mul_one]; exact c2)]
          have W2 := W.next g c1 c2
          have f3 := lt_fs r (e + 1)
          have f4 := fs_le c1
          refine iteT ⟨fun σ H4 => H4 = H3 ∧ σ = [some (.ref a), some (.ref l), some (.int (k : Int)), some (.int ((fs r (e + 1) - 1 : Nat) : Int))], ?_, ?_⟩
          · rintro σ' H' ⟨rfl, rfl⟩
            exact ⟨r.length - (fs r (e + 1) - 1), by omega, rfl, fs r (e + 1) - 1, rfl, W2, rfl⟩
          · exact ⟨_, rfl, _, rfl, rd_op ⟨l, _, _, _, rfl, rfl, SqL.of e2, atI_cast (j := e + 1) (by omega) (nats_at (hes (e + 1) c1 (by omega))), rfl, rfl⟩⟩
        · rw [decide_eq_false (show ¬ (r.getD (e + 1) (0, 0)).1 ≤ pl r k * 1 + ht r k by rw [Int.mul_one]; exact c2)]
          exact iteF ⟨_, rfl, _, rfl, _, rfl, l, _, _, k, rfl, rfl, e2, ixN_nat (by rw [nats_len]; omega), fin fun _ => c2⟩
      · rw [decide_eq_false (show ¬ (e : Int) + 1 < (xs.length : Int) by omega)]
        exact iteF (iteF ⟨_, rfl, _, rfl, _, rfl, l, _, _, k, rfl, rfl, e2, ixN_nat (by rw [nats_len]; omega), fin fun z => absurd z c1⟩)
    · rintro σ H2 ⟨v2, v3, es, rfl, s2, e2, hel, hes⟩
      refine ⟨_, rfl, q l H2 nl s2 ?_⟩
      rw [e2, rends_of hel fun k hk => hes k hk (by omega)]
noncomputable def lend (r : Row) (k : Nat) : Nat := r.length - fs (mir r) (r.length - 1 - k)
noncomputable def lends (r : Row) : List Nat := (List.range r.length).map (lend r)
theorem lends_at {r : Row} {k : Nat} (h : k < r.length) : (lends r)[k]? = some (lend r k) := by unfold lends; rw [List.getElem?_map, List.getElem?_range h]; rfl
noncomputable def spLEnds : Sp := fun vs H Q _ => ∃ a r, vs = [.ref a] ∧ RowOk H a r ∧ ∀ l H', H l = none → Same H H' → H' l = some (.lst (nats (lends r))) → Q (.ref l) H'
theorem sc_left_ends : FnScope ["row"] ["row"] (defScope s_left_ends) := ⟨rfl, rfl, rfl, by decide +kernel, rfl, by decide +kernel, by decide +kernel⟩
theorem ok_lends {f : Addr} {fd : FuncData} (F : Fun K "left_ends" "left_ends" s_left_ends f fd) (B : Blt mg) (d_mirrored : Dfn P w K mg base "mirrored" 4 ["row"] (spMirr)) (d_right_ends : Dfn P w K mg base "right_ends" 2 ["row"] (spREnds)) : FnOk P w K mg base CX0 5 f fd ["row"] (spLEnds) := by
  refine F.ok sc_left_ends (fun vs H Q E h => ?_) (fun cdv A outer s H vs Q E hr h => ?_)
  · obtain ⟨a, r, rfl, _⟩ := h
    rfl
  · obtain ⟨a, r, rfl, R, q⟩ := h
    obtain ⟨⟨xs, ha, hx⟩, g, hle⟩ := id R
    have hlen := hx.length
    refine ⟨_, (pss_one (ps_ret (pe_comp rfl (cap := [(0, "row")]) (own := ["end"]) (CompOk.of (outer := defScope s_left_ends) (N := ["row"]) rfl rfl (by decide +kernel)) (pi_rev rfl B.b_reversed (pa_cons (pe_callD d_right_ends (hr.mono (by decide)) (by rfl) (pa_cons (pe_callD d_mirrored (hr.mono (by decide)) (by rfl) (pa_cons (pv 0) pa_nil)) pa_nil)) pa_nil)) (fun _ _ _ _ => ⟨(pg_name (i := 1) (show List.Nodup (["row", "end"] : List Str) by decide +kernel) rfl (Or.inl rfl)), pf_nil, (pe_op op_sub (pe_op op_sub (pe_callB (call_len_seqK K rfl) (by rfl) B.b_len boot_len (pa_cons (pv 0) pa_nil)) pe_int) (pv 1))⟩)))), ?_⟩
    refine ⟨_, rfl, a, r, rfl, R, fun l1 H1 n1 s1 R1 => ⟨l1, mir r, rfl, ⟨R1, g.mir, by rw [mir_length]; exact hle⟩, fun l2 H2 n2 s2 e2 => ⟨l2, _, rfl, SqL.of e2, ?_⟩⟩⟩
    have zl : (nats (rends (mir r))).length = r.length := by rw [nats_len, rends_len, mir_length]
    refine comp_fil (J := Itv K l2 (nats (rends (mir r)))) (n := r.length) (fun _ => true) (fun i => .int ((lend r i : Nat) : Int)) hle ?_ ?_ ?_ ?_
    · exact fun i H' s' hi => ⟨SqL.of (s' _ _ e2), by omega⟩
    · exact fun H' s' => Nat.le_of_eq zl
    · rintro i x H' H3 Q1 Q2 hi s' ⟨rfl, y⟩ q1 q2
      have hj : r.length - 1 - i < (mir r).length := by rw [mir_length]; omega
      rw [zl, nats_at (rends_at hj)] at y
      cases y
      have f1 := lt_fs (mir r) (r.length - 1 - i)
      have f2 := fs_le hj
      rw [mir_length] at f2
      refine ⟨⟨rfl, rfl⟩, _, rfl, a, xs, rfl, .inl (SqL.of ((s1.trans (s2.trans s')) _ _ ha)), rd_op ⟨_, rfl, rd_op ?_⟩⟩
      have e : (xs.length : Int) - 1 - ((fs (mir r) (r.length - 1 - i) - 1 : Nat) : Int) = ((lend r i : Nat) : Int) := by unfold lend; omega
      rw [e]
      exact q1 rfl _ fun _ _ z => z
    · intro D H' nD s' e'
      refine q D H' (s1.free (s2.free nD)) (s1.trans (s2.trans s')) ?_
      rw [e', fil_all]
      unfold nats lends
      rw [List.map_map]
      rfl
noncomputable def evp (n : Nat) : Row := ((List.range n).map fun (k : Nat) => ((k : Int), (1 : Int))) ++ (List.range n).map fun (k : Nat) => ((k : Int), (-1 : Int))
noncomputable def spEvery : Sp := fun vs H Q _ => ∃ a xs, vs = [.ref a] ∧ H a = some (.lst xs) ∧ xs.length ≤ 400 ∧ ∀ l H', H l = none → Same H H' → RowAt H' l (evp xs.length) → Q (.ref l) H'
theorem row_range {H : Hp} {ys : List V} {n : Nat} {f : Nat → Int × Int} (h : ys.length = n) (t : TupsV (fun k vs => vs = [.int (f k).1, .int (f k).2]) H ys) : RowV H ys ((List.range n).map f) := by
  refine TupsV.row (by rw [h, List.length_map, List.length_range]) fun k x e => ?_
  obtain ⟨t', vs, e1, e2, e3⟩ := t k x e
  have hk : k < n := by rw [← h]; exact (List.getElem?_eq_some_iff.mp e).1
  refine ⟨t', vs, e1, e2, ?_⟩
  show vs = _
  rw [e3, List.getD_eq_getElem?_getD, List.getElem?_map, List.getElem?_range hk]
  rfl
theorem RowV.app {H : Hp} {xs ys : List V} {r s : Row} (h1 : RowV H xs r) (h2 : RowV H ys s) : RowV H (xs ++ ys) (r ++ s) := by
  induction h1 with
  | nil => exact h2
  | cons a _ ih => exact .cons a ih
theorem sc_every_push : FnScope ["row"] ["row"] (defScope s_every_push) := ⟨rfl, rfl, rfl, by decide +kernel, rfl, by decide +kernel, by decide +kernel⟩
theorem ok_every {f : Addr} {fd : FuncData} {tR tL : Tok} (F : Fun K "every_push" "every_push" s_every_push f fd) (B : Blt mg) (C : Cst mg tR tL) : FnOk P w K mg base CX0 1 f fd ["row"] (spEvery) := by
  refine F.ok sc_every_push (fun vs H Q E h => ?_) (fun cdv A outer s H vs Q E hr h => ?_)
  · obtain ⟨a, xs, rfl, _⟩ := h
    rfl
  · obtain ⟨a, xs, rfl, ha, hle, q⟩ := h
    refine ⟨_, (pss_one (ps_ret (pe_op op_cat (pe_comp rfl (cap := []) (own := ["k"]) (CompOk.of (outer := defScope s_every_push) (N := ["row"]) rfl rfl (by decide +kernel)) (pi_range1 rfl B.b_range (pa_cons (pe_callB (call_len_seqK K rfl) (by rfl) B.b_len boot_len (pa_cons (pv 0) pa_nil)) pa_nil)) (fun _ _ _ _ => ⟨(pg_name (i := 0) (show List.Nodup (["k"] : List Str) by decide +kernel) rfl (Or.inl rfl)), pf_nil, (pe_tup (pa_cons (pv 0) (pa_cons (pe_glob (v := .int 1) rfl C.hR ⟨_, rfl⟩) pa_nil)))⟩)) (pe_comp rfl (cap := []) (own := ["k"]) (CompOk.of (outer := defScope s_every_push) (N := ["row"]) rfl rfl (by decide +kernel)) (pi_range1 rfl B.b_range (pa_cons (pe_callB (call_len_seqK K rfl) (by rfl) B.b_len boot_len (pa_cons (pv 0) pa_nil)) pa_nil)) (fun _ _ _ _ => ⟨(pg_name (i := 0) (show List.Nodup (["k"] : List Str) by decide +kernel) rfl (Or.inl rfl)), pf_nil, (pe_tup (pa_cons (pv 0) (pa_cons (pe_glob (v := .int (-1)) rfl C.hL ⟨_, rfl⟩) pa_nil)))⟩))))), ?_⟩
    refine ⟨_, rfl, a, xs, rfl, .inl (SqL.of ha), _, rfl, by omega, by omega, ?_⟩
    rw [Int.toNat_natCast]
    refine comp_tups (J := Itr 0 xs.length) (n := xs.length) (fun k vs => vs = [.int (k : Int), .int 1]) (by omega) (fun i H' _ hi => hi) (fun H' _ => Nat.le_refl _) ?_ ?_
    · rintro i x H' H3 Q1 Q2 hi s' ⟨rfl, rfl⟩ q1
      rw [Int.zero_add]
      exact ⟨⟨rfl, rfl⟩, _, rfl, two_ok, fun u hu => q1 u _ _ (fun _ _ z => z) hu rfl⟩
    intro D1 ys1 H1 n1 s1 e1 l1 t1
    refine ⟨_, rfl, a, xs, rfl, .inl (SqL.of (s1 _ _ ha)), _, rfl, by omega, by omega, ?_⟩
    rw [Int.toNat_natCast]
    refine comp_tups (J := Itr 0 xs.length) (n := xs.length) (fun k vs => vs = [.int (k : Int), .int (-1)]) (by omega) (fun i H' _ hi => hi) (fun H' _ => Nat.le_refl _) ?_ ?_
    · rintro i x H' H3 Q1 Q2 hi s' ⟨rfl, rfl⟩ q1
      rw [Int.zero_add]
      exact ⟨⟨rfl, rfl⟩, _, rfl, two_ok, fun u hu => q1 u _ _ (fun _ _ z => z) hu rfl⟩
    intro D2 ys2 H2 n2 s2 e2 l2 t2
    refine ⟨D1, D2, ys1, ys2, rfl, rfl, s2 _ _ e1, e2, Nat.le_of_lt (small1000 (by omega)), fun l nl => ?_⟩
    have s3 := Same.upd (o := .lst (ys1 ++ ys2)) nl
    have v1 := RowV.same (s2.trans s3) (row_range (f := fun (k : Nat) => ((k : Int), (1 : Int))) l1 t1)
    have v2 := RowV.same s3 (row_range (f := fun (k : Nat) => ((k : Int), (-1 : Int))) l2 t2)
    exact q l _ (s1.free (s2.free nl)) (s1.trans (s2.trans s3)) ⟨_, upd_same, RowV.app v1 v2⟩
noncomputable def spanOf (r : Row) (p : Int × Int) : Int × Int := if p.2 = 1 then (p.1, ((fs r p.1.toNat - 1 : Nat) : Int)) else (((lend r p.1.toNat : Nat) : Int), p.1)
noncomputable def spSpans : Sp := fun vs H Q _ => ∃ a b r ps, vs = [.ref a, .ref b] ∧ RowOk H a r ∧ RowAt H b ps ∧ ps.length ≤ 1000 ∧ (∀ k, k < ps.length → ∃ s : Nat, (ps.getD k (0, 0)).1 = (s : Int) ∧ s < r.length) ∧ ∀ l H', H l = none → Same H H' → RowAt H' l (ps.map (spanOf r)) → Q (.ref l) H'
theorem sc_spans : FnScope ["row", "pushes", "firsts", "lasts"] ["row", "pushes"] (defScope s_spans) := ⟨rfl, rfl, rfl, by decide +kernel, rfl, by decide +kernel, by decide +kernel⟩
theorem ok_spans {f : Addr} {fd : FuncData} {tR tL : Tok} (F : Fun K "spans" "spans" s_spans f fd) (C : Cst mg tR tL) (d_left_ends : Dfn P w K mg base "left_ends" 5 ["row"] (spLEnds)) (d_right_ends : Dfn P w K mg base "right_ends" 2 ["row"] (spREnds)) : FnOk P w K mg base CX0 6 f fd ["row", "pushes"] (spSpans) := by
  refine F.ok sc_spans (fun vs H Q E h => ?_) (fun cdv A outer s H vs Q E hr h => ?_)
  · obtain ⟨a, b, r, ps, rfl, _⟩ := h
    rfl
  · obtain ⟨a, b, r, ps, rfl, R, Rb, hpl, hps, q⟩ := h
    obtain ⟨ys, hb, hy⟩ := id Rb
    have hyl := hy.length
    refine ⟨_, (pss_cons (ps_set (i := 2) sc_spans.nd rfl (Or.inr rfl) (pe_callD d_left_ends (hr.mono (by decide)) (by rfl) (pa_cons (pv 0) pa_nil)))
      (pss_cons (ps_set (i := 3) sc_spans.nd rfl (Or.inr rfl) (pe_callD d_right_ends (hr.mono (by decide)) (by rfl) (pa_cons (pv 0) pa_nil)))
      (pss_one (ps_ret (pe_comp rfl (cap := [(3, "lasts"), (2, "firsts")]) (own := ["stone", "side"]) (CompOk.of (outer := defScope s_spans) (N := ["row", "pushes", "firsts", "lasts"]) rfl rfl (by decide +kernel)) (pi_list (pv 1)) (fun _ _ _ _ => ⟨(pg_tupK (n := 2) K rfl rfl (pgs_cons (pg_name (i := 2) (show List.Nodup (["lasts", "firsts", "stone", "side"] : List Str) by decide +kernel) rfl (Or.inl rfl)) (pgs_cons (pg_name (i := 3) (show List.Nodup (["lasts", "firsts", "stone", "side"] : List Str) by decide +kernel) rfl (Or.inl rfl)) pgs_nil))), pf_nil, (pe_ifExp (pt_cmpR op_eq (pv 3) (pe_glob (v := .int 1) rfl C.hR ⟨_, rfl⟩) (nomark _)) (pe_tup (pa_cons (pv 2) (pa_cons (pe_ix (ix_listK K rfl) (pv 0) (pv 2) (fun _ _ => rfl)) pa_nil))) (pe_tup (pa_cons (pe_ix (ix_listK K rfl) (pv 1) (pv 2) (fun _ _ => rfl)) (pa_cons (pv 2) pa_nil))))⟩)))))), ?_⟩
    refine ⟨_, rfl, a, r, rfl, R, fun l1 H1 n1 s1 e1 => ?_⟩
    refine ⟨_, rfl, a, r, rfl, R.same s1, fun l2 H2 n2 s2 e2 => ?_⟩
    have s12 := s1.trans s2
    refine ⟨_, rfl, b, rfl, ⟨_, SqL.of (s12 _ _ hb)⟩, ?_⟩
    refine comp_tups (J := Itl K b) (n := ps.length) (fun k vs => vs = [.int (spanOf r (ps.getD k (0, 0))).1, .int (spanOf r (ps.getD k (0, 0))).2]) hpl ?_ ?_ ?_ ?_
    · intro i H' s' hi
      obtain ⟨t, x1, _⟩ := hy.get hi
      exact ⟨_, _, SqL.of ((s12.trans s') _ _ hb), x1⟩
    · exact fun H' s' => ⟨_, SqL.of ((s12.trans s') _ _ hb), by omega⟩
    · rintro i x H' H3 Q1 Q2 hi s' ⟨rfl, y⟩ q1
      have s0 := s12.trans s'
      obtain ⟨t, x1, ht⟩ := hy.get hi
      have yx := y _ (SqL.of (s0 _ _ hb))
      rw [x1] at yx
      cases yx
      obtain ⟨s, es, hs⟩ := hps i hi
      have en : (ps.getD i (0, 0)).1.toNat = s := by rw [es]; rfl
      refine rd_tup2 (SqT.of (s0 _ _ ht)) ⟨⟨rfl, rfl⟩, _, rfl, rfl, _, rfl, ?_⟩
      rw [dec_ints]
      by_cases c : (ps.getD i (0, 0)).2 = 1
      · rw [decide_eq_true c]
        refine iteT ⟨_, rfl, _, rfl, _, rfl, l2, _, _, _, rfl, rfl, SqL.of (s' _ _ e2), atI_cast es (nats_at (rends_at hs)), two_ok, fun u hu => q1 u _ _ (fun _ _ z => z) hu ?_⟩
        unfold spanOf
        rw [if_pos c, en]
      · rw [decide_eq_false c]
        refine iteF ⟨_, rfl, _, rfl, l1, _, _, _, rfl, rfl, SqL.of ((s2.trans s') _ _ e1), atI_cast es (nats_at (lends_at hs)), _, rfl, two_ok, fun u hu => q1 u _ _ (fun _ _ z => z) hu ?_⟩
        unfold spanOf
        rw [if_neg c, en]
    · intro D zs H' nD s' e' zl t'
      refine q D H' (s1.free (s2.free nD)) (s12.trans s') ⟨zs, e', ?_⟩
      refine TupsV.row (by rw [List.length_map]; exact zl) fun k x e => ?_
      obtain ⟨t, vs, e1, e2, e3⟩ := t' k x e
      have hk : k < ps.length := by rw [← zl]; exact (List.getElem?_eq_some_iff.mp e).1
      refine ⟨t, vs, e1, e2, ?_⟩
      show vs = _
      rw [e3, List.getD_eq_getElem?_getD (l := ps.map _), List.getElem?_map, List.getD_eq_getElem?_getD, List.getElem?_eq_getElem hk]
      rfl
end
end Fk

set_option genSizeOf false
set_option genInjectivity false
namespace Fk
open PySem L2 Fm PyProof.Rows
section
variable {P : Program} {w : World} {K : PySem.W.Frag} {mg : Str → Option Value} {base : Heap} {cA cC cS cF cR cH : Addr}
theorem evp_len (n : Nat) : (evp n).length = n + n := by unfold evp; simp
theorem evp_lo {n k : Nat} (h : k < n) : (evp n).getD k (0, 0) = ((k : Int), 1) := by
  unfold evp
  rw [List.getD_eq_getElem?_getD, List.getElem?_append_left (by simpa using h), List.getElem?_map, List.getElem?_range h]
  rfl
theorem evp_hi {n k : Nat} (h1 : n ≤ k) (h2 : k < n + n) : (evp n).getD k (0, 0) = (((k - n : Nat) : Int), -1) := by
  unfold evp
  rw [List.getD_eq_getElem?_getD, List.getElem?_append_right (by simpa using h1), List.getElem?_map, List.length_map, List.length_range, List.getElem?_range (by omega)]
  rfl
theorem evp_ok {n k : Nat} (h : k < (evp n).length) : ∃ s : Nat, ((evp n).getD k (0, 0)).1 = (s : Int) ∧ s < n := by
  rw [evp_len] at h
  by_cases c : k < n
  · exact ⟨k, by rw [evp_lo c], c⟩
  · exact ⟨k - n, by rw [evp_hi (by omega) h], by omega⟩
theorem lend_le {r : Row} {k : Nat} (h : k < r.length) : lend r k ≤ k := by
  have := lt_fs (mir r) (r.length - 1 - k)
  unfold lend
  omega
noncomputable def wF (r : Row) (i k : Nat) (vs : List V) : Prop := ∃ (e : Int) (v : V), vs = [.int e, v] ∧ (k : Int) ≤ e ∧ e < (r.length : Int) ∧ (k < i → (fs r k : Int) ≤ e + 1)
noncomputable def spWide : Sp := fun vs H Q _ => ∃ a r, vs = [.ref a] ∧ RowOk H a r ∧ r.length ≤ 400 ∧ ∀ l zs H', H l = none → Same H H' → H' l = some (.lst zs) → zs.length = r.length → TupsV (wF r r.length) H' zs → Q (.ref l) H'
theorem sc_widest : FnScope ["row", "found", "pushes", "push", "span"] ["row"] (defScope s_widest) := ⟨rfl, rfl, rfl, by decide +kernel, rfl, by decide +kernel, by decide +kernel⟩
theorem ok_wide {f : Addr} {fd : FuncData} {tR tL : Tok} (F : Fun K "widest" "widest" s_widest f fd) (B : Blt mg) (C : Cst mg tR tL) (d_every_push : Dfn P w K mg base "every_push" 1 ["row"] (spEvery)) (d_spans : Dfn P w K mg base "spans" 6 ["row", "pushes"] (spSpans)) : FnOk P w K mg base CX0 7 f fd ["row"] (spWide) := by
  refine F.ok sc_widest (fun vs H Q E h => ?_) (fun cdv A outer s H vs Q E hr h => ?_)
  · obtain ⟨a, r, rfl, _⟩ := h
    rfl
  · obtain ⟨a, r, rfl, R, hle, q⟩ := h
    obtain ⟨⟨xs, ha, hx⟩, g, _⟩ := id R
    have hlen := hx.length
    refine ⟨_, (pss_cons (ps_setComp (i := 1) rfl (hN := sc_widest.nd) (hiN := rfl) (hy := (Or.inl rfl)) (cap := []) (own := ["k"]) (O := (CompOk.of (outer := defScope s_widest) (N := ["row", "found", "pushes", "push", "span"]) rfl rfl (by decide +kernel))) (pi_range1 rfl B.b_range (pa_cons (pe_callB (call_len_seqK K rfl) (by rfl) B.b_len boot_len (pa_cons (pv 0) pa_nil)) pa_nil)) (fun _ _ _ _ => ⟨(pg_name (i := 0) (show List.Nodup (["k"] : List Str) by decide +kernel) rfl (Or.inl rfl)), pf_nil, (pe_tup (pa_cons (pv 0) (pa_cons (pe_tup (pa_cons (pv 0) (pa_cons (pe_glob (v := .int 1) rfl C.hR ⟨_, rfl⟩) pa_nil))) pa_nil)))⟩))
      (pss_cons (ps_set (i := 2) sc_widest.nd rfl (Or.inl rfl) (pe_callD d_every_push (hr.mono (by decide)) (by rfl) (pa_cons (pv 0) pa_nil)))
      (pss_cons (ps_for PassesOwn.never rfl (pi_zip rfl B.b_zip (pa_cons (pv 2) (pa_cons (pe_callD d_spans (hr.mono (by decide)) (by rfl) (pa_cons (pv 0) (pa_cons (pv 2) pa_nil))) pa_nil))) (pg_tupK (n := 2) K rfl rfl (pgs_cons (pg_name (i := 3) sc_widest.nd rfl (Or.inl rfl)) (pgs_cons (pg_name (i := 4) sc_widest.nd rfl (Or.inl rfl)) pgs_nil)))
        (pss_one (ps_if (pt_cmpR op_gt (pe_ix (ix_tupK K rfl) (pv 4) pe_int (fun _ _ => rfl)) (pe_ix (ix_tupK K rfl) (pe_ix (ix_listK K rfl) (pv 1) (pe_ix (ix_tupK K rfl) (pv 4) pe_int (fun _ _ => rfl)) (fun _ _ => rfl)) pe_int (fun _ _ => rfl)) (nomark _))
          (pss_one (ps_asg (pe_tup (pa_cons (pe_ix (ix_tupK K rfl) (pv 4) pe_int (fun _ _ => rfl)) (pa_cons (pv 3) pa_nil))) (pg_sub (pv 1) (pe_ix (ix_tupK K rfl) (pv 4) pe_int (fun _ _ => rfl)) set_list)))
          pss_nil)))
      (pss_one (ps_ret (pv 1)))))), ?_⟩
    refine ⟨_, rfl, a, xs, rfl, .inl (SqL.of ha), _, rfl, by omega, by omega, ?_⟩
    rw [Int.toNat_natCast]
    refine comp_tups (J := Itr 0 xs.length) (n := xs.length) (wF r 0) (by omega) (fun i H' _ hi => hi) (fun H' _ => Nat.le_refl _) ?_ ?_
    · rintro i x H' H3 Q1 Q2 hi s' ⟨rfl, rfl⟩ q1
      refine ⟨⟨rfl, rfl⟩, _, rfl, _, rfl, two_ok, fun t nt => ⟨two_ok, fun u hu => q1 u _ _ (Same.upd nt) hu ?_⟩⟩
      exact ⟨_, _, rfl, by omega, by omega, fun z => absurd z (Nat.not_lt_zero _)⟩
    intro lf zs0 H1 nf s1 e1 zl0 t0
    refine ⟨_, rfl, a, xs, rfl, s1 _ _ ha, Nat.le_trans (Nat.le_of_eq hlen) hle, fun lp H2 np s2 Rp => ?_⟩
    rw [hlen] at Rp
    refine ⟨_, rfl, _, rfl, _, rfl, a, lp, r, evp r.length, rfl, R.same (s1.trans s2), Rp, by rw [evp_len]; omega, fun k hk => evp_ok hk, fun ls H3 ns s3 Rs => ?_⟩
    obtain ⟨ps, hps, vps⟩ := id Rp
    obtain ⟨ws, hws, vws⟩ := id Rs
    have pl1 := vps.length
    have wl1 := vws.length
    rw [List.length_map] at wl1
    rw [evp_len] at pl1 wl1
    have m3 := s3 _ _ hps
    have vp3 := RowV.same s3 vps
    refine ⟨lp, ls, ps, ws, rfl, SqL.of m3, SqL.of hws, for_zip (K := K) (fun i σ H4 => ∃ (v3 v4 : Option V) (zs : List V), σ = [some (.ref a), some (.ref lf), some (.ref lp), v3, v4] ∧ (∀ b u, b ≠ lf → H3 b = some u → H4 b = some u) ∧ H4 lf = some (.lst zs) ∧ zs.length = r.length ∧ TupsV (wF r i) H4 zs) ⟨none, none, zs0, rfl, fun _ _ _ z => z, (s2.trans s3) _ _ e1, by omega, t0.mono (fun t vs z => (s2.trans s3) _ _ z) fun _ _ z => z⟩ ?_ ?_ ?_⟩
    · rintro i σ H4 ⟨v3, v4, zs, rfl, k4, _⟩
      have x1 : lp ≠ lf := fun z => by rw [z, (s2.trans s3) _ _ e1] at m3; cases m3; rw [z] at np; rw [e1] at np; cases np
      have x2 : ls ≠ lf := fun z => by rw [z] at ns; rw [s2 _ _ e1] at ns; cases ns
      exact ⟨SqL.of (k4 _ _ x1 m3), SqL.of (k4 _ _ x2 hws)⟩
    · rintro i x y T σ H4 hxi hyi nT ⟨v3, v4, zs, rfl, k4, e4, zl, t4⟩
      have hi : i < r.length + r.length := by rw [← pl1]; exact (List.getElem?_eq_some_iff.mp hxi).1
      obtain ⟨tp, xp, hp⟩ := vp3.get (i := i) (by rw [evp_len]; exact hi)
      obtain ⟨ts, xs', hs⟩ := vws.get (i := i) (by rw [List.length_map, evp_len]; exact hi)
      rw [hxi] at xp
      rw [hyi] at xs'
      cases xp
      cases xs'
      have es : (((evp r.length).map (spanOf r)).getD i (0, 0)) = spanOf r ((evp r.length).getD i (0, 0)) := by
        rw [List.getD_eq_getElem?_getD, List.getElem?_map, List.getD_eq_getElem?_getD, List.getElem?_eq_getElem (by rw [evp_len]; exact hi)]
        rfl
      rw [es] at hs
      obtain ⟨f, la, hf, hla, efl, hi2⟩ : ∃ (f : Nat) (la : Int), f < r.length ∧ la < (r.length : Int) ∧ spanOf r ((evp r.length).getD i (0, 0)) = ((f : Int), la) ∧ (f : Int) ≤ la ∧ (i < r.length → f = i ∧ la = ((fs r i - 1 : Nat) : Int)) := by
        by_cases c : i < r.length
        · have f1 := lt_fs r i
          have f2 := fs_le c
          exact ⟨i, ((fs r i - 1 : Nat) : Int), c, by omega, by rw [evp_lo c]; rfl, by omega, fun _ => ⟨rfl, rfl⟩⟩
        · have f1 := lend_le (r := r) (k := i - r.length) (by omega)
          exact ⟨lend r (i - r.length), ((i - r.length : Nat) : Int), by omega, by omega, by rw [evp_hi (by omega) hi]; rfl, by omega, fun z => absurd z c⟩
      rw [efl] at hs
      have ts_lf : ts ≠ lf := fun z => by rw [z, (s2.trans s3) _ _ e1] at hs; cases hs
      have hs4 := k4 _ _ ts_lf hs
      have nts : ts ≠ T := ne_of_none hs4 nT
      have nlf : lf ≠ T := ne_of_none e4 nT
      obtain ⟨z0, hz0⟩ : ∃ z0, zs[f]? = some z0 := ⟨_, List.getElem?_eq_getElem (by omega)⟩
      obtain ⟨t, vs, rfl, ht, e0, v0, rfl, b1, b2, b3⟩ := t4 f z0 hz0
      have ntT : t ≠ T := ne_of_none ht nT
      have ct : ∀ b u, H4 b = some u → (L2.upd H4 T (.tup [V.ref tp, V.ref ts])) b = some u := fun b u z => by rw [upd_ne (ne_of_none z nT)]; exact z
      refine rd_tup2 (SqT.of upd_same) ?_
      refine rd_tix rfl (SqT.of (ct _ _ hs4)) rfl ?_
      refine ⟨_, rfl, _, rfl, ts, _, 0, _, rfl, rfl, SqT.of (ct _ _ hs4), rfl, lf, zs, _, _, rfl, rfl, SqL.of (ct _ _ e4), atI_nat hz0, t, _, 0, _, rfl, rfl, SqT.of (ct _ _ ht), rfl, rd_op ⟨_, rfl, ?_⟩⟩
      by_cases c : la > e0
      · rw [decide_eq_true c]
        refine iteT ⟨_, rfl, ts, _, 1, _, rfl, rfl, SqT.of (ct _ _ hs4), rfl, _, rfl, two_ok, fun u nu => ?_⟩
        have cu : ∀ b w, H4 b = some w → (L2.upd (L2.upd H4 T (.tup [V.ref tp, V.ref ts])) u (.tup [V.int la, V.ref tp])) b = some w := fun b w z => by rw [upd_ne (ne_of_none (ct _ _ z) nu)]; exact ct _ _ z
        refine ⟨_, rfl, _, rfl, ts, _, 0, _, rfl, rfl, SqT.of (cu _ _ hs4), rfl, lf, zs, _, f, rfl, rfl, cu _ _ e4, ixN_nat (by omega), ?_⟩
        have uT : u ≠ lf := fun z => by rw [z, ct _ _ e4] at nu; cases nu
        refine ⟨_, _, zs.set f (.ref u), rfl, fun b w hb z => by rw [upd_ne hb]; exact cu _ _ (k4 b w hb z), upd_same, by rw [List.length_set]; exact zl, fun k x e => ?_⟩
        by_cases ck : k = f
        · subst ck
          rw [List.getElem?_set_self (by omega)] at e
          cases e
          refine ⟨u, _, rfl, by rw [upd_ne uT, upd_same], la, _, rfl, hi2.1, hla, fun z => ?_⟩
          by_cases d : k < i
          · have := b3 d; omega
          · obtain ⟨g1, g2⟩ := hi2.2 (by omega)
            rw [g2]
            have := lt_fs r i
            have g3 : k = i := g1
            subst g3
            omega
        · rw [List.getElem?_set_ne (fun z => ck z.symm)] at e
          obtain ⟨t', vs', rfl, ht', e', v', rfl, d1, d2, d3⟩ := t4 k x e
          have n1 : t' ≠ lf := fun z => by rw [z, e4] at ht'; cases ht'
          refine ⟨t', _, rfl, by rw [upd_ne n1]; exact cu _ _ ht', e', v', rfl, d1, d2, fun z => ?_⟩
          by_cases d : k < i
          · exact d3 d
          · obtain ⟨g1, g2⟩ := hi2.2 (by omega)
            omega
      · rw [decide_eq_false c]
        refine iteF ⟨_, _, zs, rfl, fun b w hb z => ct _ _ (k4 b w hb z), ct _ _ e4, zl, fun k x e => ?_⟩
        obtain ⟨t', vs', rfl, ht', e', v', rfl, d1, d2, d3⟩ := t4 k x e
        refine ⟨t', _, rfl, ct _ _ ht', e', v', rfl, d1, d2, fun z => ?_⟩
        by_cases d : k < i
        · exact d3 d
        · obtain ⟨g1, g2⟩ := hi2.2 (by have : k < r.length := by rw [← zl]; exact (List.getElem?_eq_some_iff.mp e).1
                                       omega)
          have ek : f = k := by omega
          subst ek
          rw [hz0] at e
          cases e
          rw [ht] at ht'
          cases ht'
          have := lt_fs r i
          have g3 : f = i := g1
          subst g3
          omega
    · rintro σ H4 ⟨v3, v4, zs, rfl, k4, e4, zl, t4⟩
      refine ⟨_, rfl, q lf zs H4 nf (fun b u z => k4 b u (ne_of_none z nf) ((s1.trans (s2.trans s3)) _ _ z)) e4 zl (t4.mono (fun _ _ z => z) fun k vs z => ?_)⟩
      obtain ⟨e, v, z1, z2, z3, z4⟩ := z
      exact ⟨e, v, z1, z2, z3, fun h => z4 (by omega)⟩
noncomputable def ff (l l2 : Addr) : List (Str × V) := putF "stones" (.ref l2) (putF "pushes" (.ref l) [])
theorem ff_pushes (l l2 : Addr) : (ff l l2).lookup ("pushes" : Str) = some (.ref l) := by
  unfold ff
  rw [lookup_putF, if_neg (by decide +kernel), lookup_putF, if_pos rfl]
noncomputable def spFInit (cF : Addr) : Sp := fun vs H Q _ => ∃ p dx a xs b ys, vs = [.ref p, .ref a, .ref b] ∧ H p = some (.ins cF dx []) ∧ H a = some (.lst xs) ∧ H b = some (.lst ys) ∧
  ∀ l l2 H', H l = none → H' l = some (.lst xs) → H' p = some (.ins cF dx (ff l l2)) → (∀ b u, b ≠ p → H b = some u → H' b = some u) → Q .non H'
theorem sc_Fewest_init : FnScope ["self", "pushes", "stones"] ["self", "pushes", "stones"] (defScope s_Fewest_init) := ⟨rfl, rfl, rfl, by decide +kernel, rfl, by decide +kernel, by decide +kernel⟩
theorem ok_FInit {f : Addr} {fd : FuncData} (F : Fun K "__init__" "Fewest.__init__" s_Fewest_init f fd) (B : Blt mg) (T : Kc K mg cA cC cS cF cR cH) : FnOk P w K mg base CX0 1 f fd ["self", "pushes", "stones"] (spFInit cF) := by
  refine F.ok sc_Fewest_init (fun vs H Q E h => ?_) (fun cdv A outer s H vs Q E hr h => ?_)
  · obtain ⟨p, dx, a, xs, b, ys, rfl, _⟩ := h
    rfl
  · obtain ⟨p, dx, a, xs, b, ys, rfl, hp, ha, hb, q⟩ := h
    have pa : a ≠ p := fun z => by rw [z, hp] at ha; cases ha
    have pb : b ≠ p := fun z => by rw [z, hp] at hb; cases hb
    refine ⟨_, (pss_cons (ps_fld (pv 0) (pe_callTy (call_list_ofK K rfl) (by rfl) B.b_list boot_list (pa_cons (pv 1) pa_nil)) rfl)
      (pss_one (ps_fld (pv 0) (pe_callTy (call_list_ofK K rfl) (by rfl) B.b_list boot_list (pa_cons (pv 2) pa_nil)) rfl))), ?_⟩
    refine ⟨_, rfl, a, xs, rfl, .inl (SqL.of ha), fun l nl => ?_⟩
    have pl : p ≠ l := ne_of_none hp nl
    refine ⟨_, rfl, p, cF, dx, [], rfl, by rw [upd_ne pl]; exact hp, T.lF, T.nF1, (by show 0 < 1000; decide), ?_⟩
    refine ⟨_, rfl, b, ys, rfl, .inl (SqL.of (by rw [upd_ne pb, upd_ne (ne_of_none hb nl)]; exact hb)), fun l2 nl2 => ?_⟩
    have pl2 : p ≠ l2 := fun z => by rw [← z, upd_same] at nl2; cases nl2
    have ll2 : l ≠ l2 := fun z => by rw [← z, upd_ne pl.symm, upd_same] at nl2; cases nl2
    refine ⟨_, rfl, p, cF, dx, _, rfl, by rw [upd_ne pl2, upd_same], T.lF, T.nF2, (by show 1 < 1000; decide), ?_⟩
    refine q l l2 _ nl (by rw [upd_ne pl.symm, upd_ne ll2, upd_ne pl.symm, upd_same]) upd_same fun c u hc z => ?_
    have cl : c ≠ l := ne_of_none z nl
    have cl2 : c ≠ l2 := fun e => by rw [← e, upd_ne hc, upd_ne cl, z] at nl2; cases nl2
    rw [upd_ne hc, upd_ne cl2, upd_ne hc, upd_ne cl]
    exact z
noncomputable def spFew (cF : Addr) : Sp := fun vs H Q _ => ∃ a r, vs = [.ref a] ∧ RowOk H a r ∧ r.length ≤ 400 ∧ ∀ p dx l l2 zs H', Same H H' → H' p = some (.ins cF dx (ff l l2)) → H' l = some (.lst zs) → zs.length ≤ (unk r).length → Q (.ref p) H'
theorem sc_fewest : FnScope ["row", "pushes", "stones", "best", "standing", "k", "fall"] ["row"] (defScope s_fewest) := ⟨rfl, rfl, rfl, by decide +kernel, rfl, by decide +kernel, by decide +kernel⟩
theorem ok_few {f : Addr} {fd : FuncData} (F : Fun K "fewest" "fewest" s_fewest f fd) (B : Blt mg) (d_check_row : Dfn P w K mg base "check_row" 3 ["row"] (spChkRow)) (d_widest : Dfn P w K mg base "widest" 7 ["row"] (spWide)) (c_Fewest : Mke P w K mg base "Fewest" cF 1 ["self", "pushes", "stones"] (spFInit cF)) : FnOk P w K mg base CX0 8 f fd ["row"] (spFew cF) := by
  refine F.ok sc_fewest (fun vs H Q E h => ?_) (fun cdv A outer s H vs Q E hr h => ?_)
  · obtain ⟨a, r, rfl, _⟩ := h
    rfl
  · obtain ⟨a, r, rfl, R, hle, q⟩ := h
    obtain ⟨⟨xs, ha, hx⟩, g, _⟩ := id R
    have hlen := hx.length
    refine ⟨_, (pss_cons (ps_expr (pe_callD d_check_row (hr.mono (by decide)) (by rfl) (pa_cons (pv 0) pa_nil)))
      (pss_cons (ps_set (i := 1) sc_fewest.nd rfl (Or.inl rfl) (pe_lst pa_nil))
      (pss_cons (ps_set (i := 2) sc_fewest.nd rfl (Or.inl rfl) (pe_lst pa_nil))
      (pss_cons (ps_set (i := 3) sc_fewest.nd rfl (Or.inl rfl) (pe_tup (pa_cons (pe_un un_neg pe_int) (pa_cons pe_non pa_nil))))
      (pss_cons (ps_set (i := 4) sc_fewest.nd rfl (Or.inl rfl) pe_int)
      (pss_cons (ps_for PassesOwn.never rfl (pi_enum K rfl rfl B.b_enumerate (pa_cons (pe_callD d_widest (hr.mono (by decide)) (by rfl) (pa_cons (pv 0) pa_nil)) pa_nil)) (pg_tupK (n := 2) K rfl rfl (pgs_cons (pg_name (i := 5) sc_fewest.nd rfl (Or.inl rfl)) (pgs_cons (pg_name (i := 6) sc_fewest.nd rfl (Or.inl rfl)) pgs_nil)))
        (pss_cons (ps_cut (ps_if (pt_cmpR op_gt (pe_ix (ix_tupK K rfl) (pv 6) pe_int (fun _ _ => rfl)) (pe_ix (ix_tupK K rfl) (pv 3) pe_int (fun _ _ => rfl)) (nomark _))
          (pss_one (ps_set (i := 3) sc_fewest.nd rfl (Or.inl rfl) (pv 6)))
          pss_nil))
        (pss_one (ps_if (pt_cmpR op_eq (pv 5) (pv 4) (nomark _))
          (pss_cons (ps_expr (pe_bm PySem.F.plainAttrs_list PySem.F.slot_list_append PySem.F.type_list_append mt_append (pv 2) (pa_cons (pv 5) pa_nil)))
          (pss_cons (ps_expr (pe_bm PySem.F.plainAttrs_list PySem.F.slot_list_append PySem.F.type_list_append mt_append (pv 1) (pa_cons (pe_ix (ix_tupK K rfl) (pv 3) pe_int (fun _ _ => rfl)) pa_nil)))
          (pss_one (ps_set (i := 4) sc_fewest.nd rfl (Or.inl rfl) (pe_op op_add (pe_ix (ix_tupK K rfl) (pv 3) pe_int (fun _ _ => rfl)) pe_int)))))
          pss_nil))))
      (pss_one (ps_ret (pe_makeD c_Fewest (hr.mono (by decide)) (by rfl) (pa_cons (pv 1) (pa_cons (pv 2) pa_nil))))))))))), ?_⟩
    refine ⟨_, rfl, a, r, rfl, R, ?_⟩
    refine ⟨zero_ok, fun lp np => ⟨zero_ok, fun ls ns => ⟨_, rfl, two_ok, fun tb ntb => ?_⟩⟩⟩
    have s1 := ((Same.upd (o := .lst []) np).trans (Same.upd (o := .lst []) ns)).trans (Same.upd (o := .tup [V.int (-1), V.non]) ntb)
    have x1 : lp ≠ ls := fun z => by rw [← z, upd_same] at ns; cases ns
    have e1 : (L2.upd (L2.upd (L2.upd H lp (.lst [])) ls (.lst [])) tb (.tup [V.int (-1), V.non])) lp = some (.lst []) := (Same.upd ntb) _ _ ((Same.upd ns) _ _ upd_same)
    have e2 : (L2.upd (L2.upd (L2.upd H lp (.lst [])) ls (.lst [])) tb (.tup [V.int (-1), V.non])) ls = some (.lst []) := (Same.upd ntb) _ _ upd_same
    have e3 : (L2.upd (L2.upd (L2.upd H lp (.lst [])) ls (.lst [])) tb (.tup [V.int (-1), V.non])) tb = some (.tup [V.int (-1), V.non]) := upd_same
    have ns0 := (Same.upd np).free ns
    generalize L2.upd (L2.upd (L2.upd H lp (.lst [])) ls (.lst [])) tb (.tup [V.int (-1), V.non]) = H1 at s1 e1 e2 e3 ⊢
    refine ⟨_, rfl, a, r, rfl, R.same s1, hle, fun lw zs H2 nw s2 ew zl tw => ⟨lw, zs, rfl, SqL.of ew, ?_⟩⟩
    have y1 : lw ≠ lp := fun z => by rw [z, e1] at nw; cases nw
    have y2 : lw ≠ ls := fun z => by rw [z, e2] at nw; cases nw
    refine for_enum (K := K) (fun i σ H3 => ∃ (v5 v6 : Option V) (b : Addr) (eb : Int) (vb : V) (S : Nat) (us ws : List V), σ = [some (.ref a), some (.ref lp), some (.ref ls), some (.ref b), some (.int (S : Int)), v5, v6] ∧ (∀ c u, c ≠ lp → c ≠ ls → H2 c = some u → H3 c = some u) ∧ H3 lp = some (.lst us) ∧ H3 ls = some (.lst ws) ∧ us.length ≤ i ∧ ws.length ≤ i ∧ H3 b = some (.tup [.int eb, vb]) ∧ eb < (r.length : Int) ∧ (∀ j, j < i → (fs r j : Int) ≤ eb + 1) ∧ i ≤ S ∧ Few r us.length S)
      ⟨none, none, tb, -1, .non, 0, [], [], rfl, fun _ _ _ _ z => z, s2 _ _ e1, s2 _ _ e2, Nat.le_refl _, Nat.le_refl _, s2 _ _ e3, by omega, fun j h => absurd h (Nat.not_lt_zero _), Nat.le_refl _, Few.start r⟩ ?_ ?_ ?_
    · rintro i σ H3 ⟨v5, v6, b, eb, vb, S, us, ws, rfl, k3, _⟩
      exact SqL.of (k3 _ _ y1 y2 ew)
    · rintro i x T σ H3 hxi nT ⟨v5, v6, b, eb, vb, S, us, ws, rfl, k3, u3, w3, ul, wl, b3, eb3, hb3, hS, F⟩
      have hi : i < r.length := by rw [← zl]; exact (List.getElem?_eq_some_iff.mp hxi).1
      obtain ⟨t, vs, rfl, ht, e, v, rfl, d1, d2, d3⟩ := tw i x hxi
      have n1 : t ≠ lp := fun z => by rw [z, s2 _ _ e1] at ht; cases ht
      have n2 : t ≠ ls := fun z => by rw [z, s2 _ _ e2] at ht; cases ht
      have ht3 := k3 _ _ n1 n2 ht
      have ct : ∀ c u, H3 c = some u → (L2.upd H3 T (.tup [V.int (i : Int), V.ref t])) c = some u := fun c u z => by rw [upd_ne (ne_of_none z nT)]; exact z
      refine rd_tup2 (SqT.of upd_same) ?_
      generalize L2.upd H3 T (.tup [V.int (i : Int), V.ref t]) = H4 at ct ⊢
      refine ⟨fun σ' H' => H' = H4 ∧ ∃ (b' : Addr) (eb' : Int) (vb' : V), σ' = [some (.ref a), some (.ref lp), some (.ref ls), some (.ref b'), some (.int (S : Int)), some (.int (i : Int)), some (.ref t)] ∧ H4 b' = some (.tup [.int eb', vb']) ∧ eb' < (r.length : Int) ∧ (∀ j, j < i + 1 → (fs r j : Int) ≤ eb' + 1), ?_, ?_⟩
      · refine rd_tix rfl (SqT.of (ct _ _ ht3)) rfl (rd_tix rfl (SqT.of (ct _ _ b3)) rfl (rd_op ⟨_, rfl, ?_⟩))
        have d3' := d3 hi
        by_cases c : e > eb
        · rw [decide_eq_true c]
          refine iteT ⟨_, rfl, rfl, t, e, v, rfl, ct _ _ ht3, d2, fun j hj => ?_⟩
          by_cases z : j = i
          · subst z; exact d3'
          · have := hb3 j (by omega); omega
        · rw [decide_eq_false c]
          refine iteF ⟨rfl, b, eb, vb, rfl, ct _ _ b3, eb3, fun j hj => ?_⟩
          by_cases z : j = i
          · subst z; omega
          · exact hb3 j (by omega)
      · rintro σ' H' ⟨rfl, b', eb', vb', rfl, hb', eb2, hbj⟩
        have f1 := lt_fs r i
        have f2 := hbj i (by omega)
        refine ⟨_, rfl, _, rfl, rfl, _, rfl, ?_⟩
        rw [dec_ints]
        have w4 := ct _ _ w3
        have u4 := ct _ _ u3
        have bls : b' ≠ ls := fun z => by rw [z, w4] at hb'; cases hb'
        have blp : b' ≠ lp := fun z => by rw [z, u4] at hb'; cases hb'
        by_cases c : (i : Int) = (S : Int)
        · rw [decide_eq_true c]
          refine iteT ⟨_, rfl, .inl ⟨rfl, _, SqL.of w4⟩, _, rfl, ls, _, _, rfl, rfl, w4, small1000 (by omega), ?_⟩
          have u5 : (L2.upd H' ls (.lst (ws ++ [V.int (i : Int)]))) lp = some (.lst us) := by rw [upd_ne x1]; exact u4
          have b5 : (L2.upd H' ls (.lst (ws ++ [V.int (i : Int)]))) b' = some (.tup [.int eb', vb']) := by rw [upd_ne bls]; exact hb'
          refine ⟨_, rfl, .inl ⟨rfl, _, SqL.of u5⟩, rd_tix rfl (SqT.of b5) rfl ⟨lp, _, _, rfl, rfl, u5, small1000 (by omega), ?_⟩⟩
          have b6 : (L2.upd (L2.upd H' ls (.lst (ws ++ [V.int (i : Int)]))) lp (.lst (us ++ [vb']))) b' = some (.tup [.int eb', vb']) := by rw [upd_ne blp]; exact b5
          refine rd_tix rfl (SqT.of b6) rfl (rd_op ?_)
          obtain ⟨S', eS⟩ : ∃ S' : Nat, eb' + 1 = (S' : Int) := ⟨(eb' + 1).toNat, by omega⟩
          refine ⟨_, _, b', eb', vb', S', us ++ [vb'], ws ++ [V.int (i : Int)], by rw [eS]; rfl, fun c u h1 h2 z => by rw [upd_ne h1, upd_ne h2]; exact ct _ _ (k3 c u h1 h2 z), upd_same, by rw [upd_ne x1.symm, upd_same], by rw [List.length_append]; exact Nat.succ_le_succ ul, by rw [List.length_append]; exact Nat.succ_le_succ wl, b6, eb2, hbj, by omega, ?_⟩
          rw [List.length_append]
          exact F.next g (by omega) (by omega) fun j hj => by have := hbj j (by omega); omega
        · rw [decide_eq_false c]
          exact iteF ⟨_, _, b', eb', vb', S, us, ws, rfl, fun c u h1 h2 z => ct _ _ (k3 c u h1 h2 z), u4, w4, by omega, by omega, hb', eb2, hbj, by omega, F⟩
    · rintro σ H3 ⟨v5, v6, b, eb, vb, S, us, ws, rfl, k3, u3, w3, ul, wl, b3, eb3, hb3, hS, F⟩
      refine ⟨_, rfl, _, rfl, fun p dx np' ndx ne => ?_⟩
      have cp : ∀ c u, H3 c = some u → (L2.upd (L2.upd H3 dx (.own p)) p (.ins cF dx [])) c = some u := fun c u z => by rw [upd_ne (ne_of_none z np'), upd_ne (ne_of_none z ndx)]; exact z
      refine ⟨p, dx, lp, us, ls, ws, rfl, upd_same, cp _ _ u3, cp _ _ w3, fun l l2 H' nl e' p' k' => ⟨rfl, q p dx l l2 us H' (fun c u z => ?_) p' e' F.le⟩⟩
      have z3 := k3 c u (ne_of_none z np) (ne_of_none z ns0) ((s1.trans s2) _ _ z)
      exact k' c u (ne_of_none z3 np') (cp _ _ z3)
end
end Fk

set_option genSizeOf false
set_option genInjectivity false
namespace Fk
open PySem L2 Fm PyProof.Rows
section
variable {P : Program} {w : World} {K : PySem.W.Frag} {mg : Str → Option Value} {base : Heap}
noncomputable def spRow (K : PySem.W.Frag) : Sp := fun vs H Q _ => ∃ (a : Addr) (ns : List Int), vs = [.ref a] ∧ SqL K H a (ns.map V.int) ∧ ns.length ≤ 63 ∧ ∀ l H' r, H l = none → Same H H' → RowAt H' l r → Good r → r.length = ns.length → Q (.ref l) H'
theorem scRow : FnScope ["_law_script", "_law_code", "_law_apart", "_law_high", "_law_place", "_law_found", "_law_cell"] ["_law_script"] (defScope sRow) := ⟨rfl, rfl, rfl, by decide +kernel, rfl, by decide +kernel, by decide +kernel⟩
theorem ok_row {f : Addr} {fd : FuncData} (F : Fun K "_law_row" "_law_row" sRow f fd) (B : Blt mg) : FnOk P w K mg base CX0 1 f fd ["_law_script"] (spRow K) := by
  refine F.ok scRow (fun vs H Q E h => ?_) (fun cdv A outer s H vs Q E hr h => ?_)
  · obtain ⟨a, ns, rfl, _⟩ := h
    rfl
  · obtain ⟨a, ns, rfl, hS, hn, q⟩ := h
    refine ⟨_, (pss_cons (ps_set (i := 1) scRow.nd rfl (Or.inl rfl) (pe_callB (call_sumI rfl) (by rfl) B.b_sum boot_sum (pa_cons (pv 0) pa_nil)))
      (@pss_cons _ _ _ _ _ (@ps_asg _ _ _ _ _ _ (@pe_ix _ _ _ _ _ _ _ ix_tup (@pe_tup4 _ _ _ _ _ _ _ _ _ _ _ _ _ _ _ _ _ _ _ (@pe_pairC _ _ _ _ _ _ _ _ _) (@pe_pairC _ _ _ _ _ _ _ _ _) (@pe_pairP _ _ _ _ _ _ _ _ _ _ _ _ _ _ _ _ _) (@pe_pairC _ _ _ _ _ _ _ _ _)) (pe_op op_mod (pv 1) pe_int) (fun _ _ => rfl)) (pg_tup rfl (pgs_cons (pg_name (i := 2) scRow.nd rfl (Or.inl rfl)) (pgs_cons (pg_name (i := 3) scRow.nd rfl (Or.inl rfl)) pgs_nil))) (by rfl) (by rfl) (by rfl))
      (pss_cons (ps_set (i := 4) scRow.nd rfl (Or.inl rfl) (pe_un un_neg (pe_op op_mod (pe_op op_fdivB (pv 1) pe_int) pe_int)))
      (pss_cons (ps_set (i := 5) scRow.nd rfl (Or.inl rfl) (pe_lst pa_nil))
      (pss_cons (ps_for PassesOwn.never rfl (pi_list (pv 0)) (pg_name (i := 6) scRow.nd rfl (Or.inl rfl))
        (pss_cons (ps_set (i := 4) scRow.nd rfl (Or.inl rfl) (pe_op op_add (pe_op op_add (pv 4) pe_int) (pe_op op_mod (pv 6) (pv 2))))
        (pss_one (ps_expr (pe_bm PySem.F.plainAttrs_list PySem.F.slot_list_append PySem.F.type_list_append mt_append (pv 5) (pa_cons (pe_tup (pa_cons (pv 4) (pa_cons (pe_op op_add pe_int (pe_op op_mod (pe_op op_add (pe_op op_fdivB (pv 6) (pv 2)) (pe_op op_fdivB (pv 6) pe_int)) (pv 3))) pa_nil))) pa_nil))))))
      (pss_one (ps_ret (pv 5)))))))), ?_⟩
    refine ⟨_, rfl, a, ns, rfl, hS, ?_⟩
    -- the table
    refine ⟨two_ok, fun p1 n1 => ⟨two_ok, fun p2 n2 => ⟨_, _, rfl, rfl, ⟨by decide, by decide, by decide⟩, _, _, rfl, rfl, ⟨by decide, by decide, by decide⟩, two_ok, fun p3 n3 => ⟨two_ok, fun p4 n4 => ⟨by show 4 ≤ sizeLine; decide, fun p n => ?_⟩⟩⟩⟩⟩
    generalize hH5 : upd (upd (upd (upd (upd H p1 (.tup [.int 3, .int 4])) p2 (.tup [.int 9, .int 12])) p3 (.tup [.int (10 ^ (20 : Int).toNat), .int (10 ^ (20 : Int).toNat)])) p4 (.tup [.int 6, .int 4])) p (.tup [.ref p1, .ref p2, .ref p3, .ref p4]) = H5
    have sm : Same H H5 := by
      rw [← hH5]
      exact (((((Same.upd n1).trans (Same.upd n2)).trans (Same.upd n3)).trans (Same.upd n4)).trans (Same.upd n))
    have hp5 : H5 p = some (.tup [.ref p1, .ref p2, .ref p3, .ref p4]) := by rw [← hH5, upd_same]
    obtain ⟨t, ap, hi, et, ht5, a0, a1, h0⟩ : ∃ (t : Addr) (ap hi : Int), atI [V.ref p1, V.ref p2, V.ref p3, V.ref p4] (ns.sum % 4) = some (.ref t) ∧ H5 t = some (.tup [.int ap, .int hi]) ∧ 0 < ap ∧ ap < 2 ^ 200 ∧ 0 < hi := by
      have s4 : Same (upd (upd (upd (upd H p1 (.tup [.int 3, .int 4])) p2 (.tup [.int 9, .int 12])) p3 (.tup [.int (10 ^ (20 : Int).toNat), .int (10 ^ (20 : Int).toNat)])) p4 (.tup [.int 6, .int 4])) H5 := by rw [← hH5]; exact Same.upd n
      have s3 := (Same.upd n4).trans s4
      have s2 := (Same.upd n3).trans s3
      have s1 := (Same.upd n2).trans s2
      have c : ns.sum % 4 = 0 ∨ ns.sum % 4 = 1 ∨ ns.sum % 4 = 2 ∨ ns.sum % 4 = 3 := by omega
      rcases c with c | c | c | c <;> rw [c]
      · exact ⟨p1, 3, 4, rfl, s1 _ _ upd_same, by decide, by decide, by decide⟩
      · exact ⟨p2, 9, 12, rfl, s2 _ _ upd_same, by decide, by decide, by decide⟩
      · exact ⟨p3, _, _, rfl, s3 _ _ upd_same, by decide, by decide, by decide⟩
      · exact ⟨p4, 6, 4, rfl, s4 _ _ upd_same, by decide, by decide, by decide⟩
    refine ⟨_, rfl, _, _, rfl, rfl, (by show (0 : Int) < 4; decide), p, _, _, _, rfl, rfl, SqT.of hp5, et, t, _, rfl, SqT.of ht5, rfl, _, _, rfl, _, _, rfl, rfl, ?_⟩
    -- the first place
    refine ⟨_, rfl, _, _, rfl, rfl, ⟨by decide, by decide⟩, _, _, rfl, rfl, (by show (0 : Int) < 90; decide), _, rfl, ?_⟩
    -- found = []
    refine ⟨(by show 0 ≤ sizeLine; decide), fun l hl => ?_⟩
    have nl : H l = none := sm.none hl
    -- the loop
    refine ⟨_, rfl, a, rfl, ⟨_, (sm.trans (Same.upd hl)).seq hS⟩, for_list (K := K) (a := a) (xs := ns.map V.int) (fun i σ H2 => ∃ (r : Row) (xs : List V) (c : Int) (v : Option V), σ = [some (.ref a), some (.int ns.sum), some (.int ap), some (.int hi), some (.int c), some (.ref l), v] ∧ Same H H2 ∧ H2 l = some (.lst xs) ∧ RowV H2 xs r ∧ Good r ∧ r.length = i ∧ ∀ k : Nat, k < r.length → pl r k ≤ c)
      ⟨[], [], _, none, rfl, sm.trans (Same.upd hl), upd_same, .nil, ⟨fun i j h1 h2 => absurd h2 (by simp), fun i h1 => absurd h1 (by simp)⟩, rfl, fun k h1 => absurd h1 (by simp)⟩ (fun i σ H2 _ ⟨_, _, _, _, _, s2, _⟩ => s2.seq hS) ?_ ?_⟩
    · rintro i y σ H2 hi' ⟨r, xs, c, v, rfl, s2, hx, hrow, g, hrl, hc⟩
      have hil : i < (ns.map V.int).length := (List.getElem?_eq_some_iff.mp hi').1
      rw [List.length_map] at hil
      obtain ⟨z, rfl⟩ : ∃ z, y = V.int z := by
        rw [List.getElem?_map] at hi'
        cases e : ns[i]? with
        | none => rw [e] at hi'; cases hi'
        | some z => rw [e] at hi'; exact ⟨z, (Option.some.inj hi').symm⟩
      refine ⟨_, rfl, _, _, rfl, rfl, _, rfl, _, rfl, _, _, rfl, rfl, a0, _, _, rfl, rfl, ?_⟩
      refine ⟨_, rfl, .inl ⟨rfl, _, SqL.of hx⟩, _, rfl, _, rfl, _, rfl, _, _, rfl, rfl, ⟨a0, a1⟩, _, rfl, _, _, rfl, rfl, ⟨by decide, by decide⟩, _, _, rfl, rfl, _, rfl, _, _, rfl, rfl, h0, _, _, rfl, rfl, two_ok, fun u hu => ?_⟩
      have nlu : l ≠ u := ne_of_none hx hu
      have xl : xs.length = i := by rw [hrow.length, hrl]
      refine ⟨l, xs, _, rfl, rfl, by rw [upd_ne nlu]; exact hx, len_ok (by omega), ?_⟩
      refine ⟨r ++ [(c + 1 + z % ap, 1 + (z / ap + z / 11) % hi)], xs ++ [.ref u], c + 1 + z % ap, _, rfl, (s2.trans (Same.upd hu)).upd' nl, upd_same, ?_, ?_, by rw [List.length_append, hrl]; rfl, ?_⟩
      · refine RowV.snoc ?_ ⟨u, rfl, by rw [upd_ne nlu.symm, upd_same]⟩
        refine Paired.mapP hrow fun v z ⟨t', z1, z2⟩ => ⟨t', z1, ?_⟩
        have m1 : t' ≠ l := fun e => by rw [e, hx] at z2; cases z2
        rw [upd_ne m1, upd_ne (ne_of_none z2 hu)]
        exact z2
      · refine Good.snoc g (fun k hk => ?_) ?_
        · have := hc k hk
          have := Int.emod_nonneg z (show ap ≠ 0 by omega)
          omega
        · have := Int.emod_nonneg (z / ap + z / 11) (show hi ≠ 0 by omega)
          omega
      · intro k hk
        have em := Int.emod_nonneg z (show ap ≠ 0 by omega)
        rw [List.length_append, List.length_singleton] at hk
        by_cases hk2 : k < r.length
        · rw [pl_snoc_lt hk2]
          have := hc k hk2
          omega
        · have e : k = r.length := by omega
          subst e
          rw [pl_snoc_eq]
          exact Int.le_refl _
    · rintro σ H2 ⟨r, xs, c, v, rfl, s2, hx, hrow, g, hrl, hc⟩
      rw [List.length_map] at hrl
      exact ⟨_, rfl, q l H2 r nl s2 ⟨xs, hx, hrow⟩ g hrl⟩
end
end Fk

set_option genSizeOf false
set_option genInjectivity false
namespace Fk
open PySem L2 Fm PyProof.Rows
section
variable {P : Program} {w : World} {K : PySem.W.Frag} {mg : Str → Option Value} {base : Heap}
noncomputable def spNums : Sp := fun vs H Q _ => ∃ (a : Addr) (ns : List Int), vs = [.ref a] ∧ H a = some (.lst (ns.map V.int)) ∧ ns.length ≤ 1000 ∧ ∀ H', Same H H' → Q (.bl true) H'
theorem scNums : FnScope ["_law_found"] ["_law_found"] (defScope sNums) := ⟨rfl, rfl, rfl, by decide +kernel, rfl, by decide +kernel, by decide +kernel⟩
theorem ok_nums {f : Addr} {fd : FuncData} (F : Fun K "_law_numbers" "_law_numbers" sNums f fd) (B : Blt mg) : FnOk P w K mg base CX0 1 f fd ["_law_found"] spNums := by
  refine F.ok scNums (fun vs H Q E h => ?_) (fun cdv A outer s H vs Q E hr h => ?_)
  · obtain ⟨a, ns, rfl, _⟩ := h
    rfl
  · obtain ⟨a, ns, rfl, ha, hn, q⟩ := h
    refine ⟨_, (pss_cons (ps_if (pt_not (pt_val (pe_callB call_isi (by rfl) B.b_isinstance boot_isinstance (pa_cons (pv 0) (pa_cons (pe_bltn (v := .ty "list") rfl B.b_list boot_list rfl) pa_nil)))))
        (pss_one (ps_ret pe_bl))
        pss_nil)
      (pss_one (ps_ret (pe_callB (call_allB rfl) (by rfl) B.b_all boot_all (pa_cons (pe_comp rfl (cap := []) (own := ["_law_one"]) (CompOk.of (outer := defScope sNums) (N := ["_law_found"]) rfl rfl (by decide +kernel)) (pi_list (pv 0)) (fun _ _ _ _ => ⟨(pg_name (i := 0) (show List.Nodup (["_law_one"] : List Str) by decide +kernel) rfl (Or.inl rfl)), pf_nil, (pe_and (pe_callB (call_isiK K rfl) (by rfl) B.b_isinstance boot_isinstance (pa_cons (pv 0) (pa_cons (pe_bltn (v := .ty "int") rfl B.b_int boot_int rfl) pa_nil))) (pe_one (pe_not (pe_callB (call_isiK K rfl) (by rfl) B.b_isinstance boot_isinstance (pa_cons (pv 0) (pa_cons (pe_bltn (v := .ty "bool") rfl B.b_bool boot_bool rfl) pa_nil))))))⟩)) pa_nil))))), ?_⟩
    refine ⟨_, rfl, _, _, _, true, rfl, TyOf.lst ha, kitB (by decide +kernel), _, rfl, iteF ?_⟩
    refine ⟨_, rfl, a, rfl, ⟨_, SqL.of ha⟩, comp_list (K := K) (a := a) (xs := ns.map V.int) (fun D i ys H2 => Same H H2 ∧ H2 D = some (.lst ys) ∧ ys = (List.replicate i true).map V.bl) ?_ ?_ ?_ ?_⟩
    · intro D hD
      exact ⟨Same.upd hD, upd_same, rfl⟩
    · rintro D i ys H2 hD ⟨s2, hd, _⟩
      exact ⟨s2.seq (SqL.of ha), hd⟩
    · rintro D i x ys H2 hD hx ⟨s2, hd, rfl⟩
      have hil : i < (ns.map V.int).length := (List.getElem?_eq_some_iff.mp hx).1
      obtain ⟨z, rfl⟩ : ∃ z, x = V.int z := by
        rw [List.getElem?_map] at hx
        cases e : ns[i]? with
        | none => rw [e] at hx; cases hx
        | some z => rw [e] at hx; exact ⟨z, (Option.some.inj hx).symm⟩
      have hil2 : i < ns.length := by rw [List.length_map] at hil; exact hil
      refine ⟨⟨rfl, rfl⟩, _, rfl, _, _, _, true, rfl, TyOf.int z, kitB (by decide +kernel), _, rfl, iteT ⟨_, rfl, _, _, _, false, rfl, TyOf.int z, kitB (by decide +kernel), _, rfl, ?_⟩⟩
      refine ⟨hd, len_ok (by simp; omega), _, (by omega : (ns.map V.int).length - (i + 1) < _), rfl, hil, s2.upd' hD, upd_same, ?_⟩
      show (List.replicate i true).map V.bl ++ [V.bl true] = (List.replicate (i + 1) true).map V.bl
      rw [List.replicate_succ', List.map_append]
      rfl
    · rintro D ys H2 hD ⟨s2, hd, rfl⟩
      refine ⟨D, List.replicate (ns.map V.int).length true, rfl, SqL.of hd, ?_⟩
      have e : (List.replicate (ns.map V.int).length true).all id = true := by simp
      rw [e]
      exact q H2 s2
end
end Fk

set_option genSizeOf false
set_option genInjectivity false
namespace Fm
theorem near_at {f : Int × Int → Int × Int} : ∀ (r : Row) (k i : Nat), (r.take k ++ ((r.drop k).take 1).map f ++ r.drop (k + 1))[i]? = (r[i]?).map fun p => if i = k then f p else p
  | [], k, i => by simp
  | p :: t, 0, 0 => rfl
  | p :: t, 0, i + 1 => by
    show t[i]? = _
    cases e : t[i]? with
    | none => rw [show (p :: t)[i + 1]? = t[i]? from rfl, e]; rfl
    | some q => rw [show (p :: t)[i + 1]? = t[i]? from rfl, e]; rfl
  | p :: t, k + 1, 0 => rfl
  | p :: t, k + 1, i + 1 => by
    have := near_at (f := f) t k i
    show (t.take k ++ ((t.drop k).take 1).map f ++ t.drop (k + 1))[i]? = (t[i]?).map _
    rw [this]
    cases t[i]? with
    | none => rfl
    | some q =>
      show some (if i = k then f q else q) = some (if i + 1 = k + 1 then f q else q)
      by_cases c : i = k
      · rw [if_pos c, if_pos (by rw [c])]
      · rw [if_neg c, if_neg fun z => c (Nat.succ.inj z)]
theorem good_iff {r : Row} : Good r ↔ r.Pairwise (fun p q => p.1 < q.1) ∧ ∀ p, p ∈ r → 1 ≤ p.2 := by
  constructor
  · intro g
    refine ⟨List.pairwise_iff_getElem.mpr fun i j hi hj hij => ?_, fun p hp => ?_⟩
    · have := g.rise i j hij hj
      unfold pl at this
      rw [List.getD_eq_getElem?_getD, List.getD_eq_getElem?_getD, List.getElem?_eq_getElem hi, List.getElem?_eq_getElem hj] at this
      exact this
    · obtain ⟨i, hi, rfl⟩ := List.getElem_of_mem hp
      have := g.high i hi
      unfold ht at this
      rw [List.getD_eq_getElem?_getD, List.getElem?_eq_getElem hi] at this
      exact this
  · rintro ⟨h1, h2⟩
    refine ⟨fun i j hij hj => ?_, fun i hi => ?_⟩
    · have hi : i < r.length := Nat.lt_trans hij hj
      have := List.pairwise_iff_getElem.mp h1 i j hi hj hij
      unfold pl
      rw [List.getD_eq_getElem?_getD, List.getD_eq_getElem?_getD, List.getElem?_eq_getElem hi, List.getElem?_eq_getElem hj]
      exact this
    · unfold ht
      rw [List.getD_eq_getElem?_getD, List.getElem?_eq_getElem hi]
      exact h2 _ (List.getElem_mem hi)
theorem near_len {f : Int × Int → Int × Int} (r : Row) (k : Nat) : (r.take k ++ ((r.drop k).take 1).map f ++ r.drop (k + 1)).length = r.length := by
  rw [List.length_append, List.length_append, List.length_map, List.length_take, List.length_take, List.length_drop, List.length_drop]
  omega
theorem Good.near {r : Row} (g : Good r) (k : Nat) {d : Int} (hd : 0 ≤ d) : Good (r.take k ++ ((r.drop k).take 1).map (fun p => (p.1, p.2 + 1 + d)) ++ r.drop (k + 1)) := by
  have e1 : ∀ i, i < r.length → pl (r.take k ++ ((r.drop k).take 1).map (fun p => (p.1, p.2 + 1 + d)) ++ r.drop (k + 1)) i = pl r i := by
    intro i hi
    unfold pl
    rw [List.getD_eq_getElem?_getD, near_at, List.getD_eq_getElem?_getD, List.getElem?_eq_getElem hi]
    show (if i = k then _ else _ : Int × Int).1 = _
    split <;> rfl
  refine ⟨fun i j h1 h2 => ?_, fun i hi => ?_⟩
  · rw [near_len] at h2
    rw [e1 i (Nat.lt_trans h1 h2), e1 j h2]
    exact g.rise i j h1 h2
  · rw [near_len] at hi
    have := g.high i hi
    unfold ht at this ⊢
    rw [List.getD_eq_getElem?_getD, List.getElem?_eq_getElem hi] at this
    rw [List.getD_eq_getElem?_getD, near_at, List.getElem?_eq_getElem hi]
    show 1 ≤ (if i = k then _ else _ : Int × Int).2
    have this : 1 ≤ r[i].2 := this
    split
    · show 1 ≤ r[i].2 + 1 + d
      omega
    · exact this
theorem Good.pick {r : Row} (g : Good r) {ks : List Nat} (h : ks.Pairwise (· < ·)) : Good (ks.filterMap (r[·]?)) := by
  obtain ⟨h1, h2⟩ := good_iff.mp g
  refine good_iff.mpr ⟨List.pairwise_filterMap.mpr (h.imp fun {i j} hij p hp q hq => ?_), fun p hp => ?_⟩
  · obtain ⟨hi, rfl⟩ := List.getElem?_eq_some_iff.mp hp
    obtain ⟨hj, rfl⟩ := List.getElem?_eq_some_iff.mp hq
    exact List.pairwise_iff_getElem.mp h1 i j hi hj hij
  · obtain ⟨i, _, e⟩ := List.mem_filterMap.mp hp
    exact h2 p (List.mem_of_getElem? e)
end Fm

set_option genSizeOf false
set_option genInjectivity false
namespace Fk
open PySem L2 Fm PyProof.Rows
section
variable {P : Program} {w : World} {K : PySem.W.Frag} {mg : Str → Option Value} {base : Heap} {cA cC cS cF cR cH : Addr}
noncomputable def spRight4 : Sp := fun vs H Q _ => ∃ a r b r2, vs = [.ref a, .ref b] ∧ RowOk H a r ∧ r.length ≤ 63 ∧ RowOk H b r2 ∧ ∀ H', Same H H' → Q (.bl true) H'
theorem dec_bl (a : Bool) : decide (V.bl a = V.bl a) = true := decide_eq_true rfl
theorem get4 {a b c d : V} {i : Nat} {x : V} (h : [a, b, c, d][i]? = some x) : x = a ∨ x = b ∨ x = c ∨ x = d := by
  match i, h with
  | 0, h => exact .inl (Option.some.inj h).symm
  | 1, h => exact .inr (.inl (Option.some.inj h).symm)
  | 2, h => exact .inr (.inr (.inl (Option.some.inj h).symm))
  | 3, h => exact .inr (.inr (.inr (Option.some.inj h).symm))
  | _ + 4, h => cases h
theorem cut_last (xs : List V) : cutV xs none (some (-1)) = xs.dropLast := by
  unfold cutV
  have e2 : HT.sIx xs.length 0 none = 0 := rfl
  have e1 : HT.sIx xs.length xs.length (some (-1)) = xs.length - 1 := by
    unfold HT.sIx
    simp only [if_pos (show (-1 : Int) < 0 by decide)]
    omega
  rw [e1, e2, List.dropLast_eq_take]
  rfl
theorem snoc_up {ss : List Int} {n : Int} (h : ss.Pairwise (· < ·)) (hn : ∀ x, x ∈ ss → x < n) : (ss ++ [n]).Pairwise (· ≤ ·) := by
  rw [List.pairwise_append]
  refine ⟨h.imp fun z => Int.le_of_lt z, List.pairwise_singleton _ _, fun x hx y hy => ?_⟩
  rw [List.mem_singleton.mp hy]
  exact Int.le_of_lt (hn x hx)
theorem scRight : FnScope ["_law_row_here", "_law_beside", "_law_handed", "_law_found", "_law_some"] ["_law_row_here", "_law_beside"] (defScope sRight) := ⟨rfl, rfl, rfl, by decide +kernel, rfl, by decide +kernel, by decide +kernel⟩
theorem ok_right4 {f : Addr} {fd : FuncData} (F : Fun K "_law_right" "_law_right" sRight f fd) (B : Blt mg) (T : Kc K mg cA cC cS cF cR cH) (d_law_numbers : Dfn P w K mg base "_law_numbers" 1 ["_law_found"] (spNums)) (d_rights : Dfn P w K mg base "rights" 4 ["row"] (spRights cR)) (d_law_rights : Dfn P w K mg base "_law_rights" 2 ["_law_row_here", "_law_stones"] (spLRights K)) (d_fewest : Dfn P w K mg base "fewest" 8 ["row"] (spFew cF)) (c_Rights : Mke P w K mg base "Rights" cR 1 ["self", "stones"] (spRInit cR)) (m_Rights_shows : Mth P w K mg base cR "shows" 3 ["self", "row"] (spRShows cR)) : FnOk P w K mg base CX0 9 f fd ["_law_row_here", "_law_beside"] (spRight4) := by
  refine F.ok scRight (fun vs H Q E h => ?_) (fun cdv A outer s H vs Q E hr h => ?_)
  · obtain ⟨a, r, b, r2, rfl, _⟩ := h
    rfl
  · obtain ⟨a, r, b, r2, rfl, R, h63, R2, q⟩ := h
    obtain ⟨⟨xs, ha, hx⟩, g, hle⟩ := id R
    have hlen := hx.length
    have hu0 := hr.units
    have ul := unk_len r
    refine ⟨_, (pss_cons (ps_set (i := 2) scRight.nd rfl (Or.inl rfl) (pe_callTy (call_list_ofK K rfl) (by rfl) B.b_list boot_list (pa_cons (pv 0) pa_nil)))
      (pss_cons (ps_set (i := 3) scRight.nd rfl (Or.inl rfl) (pe_callD d_rights (hr.mono (by decide)) (by rfl) (pa_cons (pv 2) pa_nil)))
      (pss_cons (ps_if (PW.pt (pw_or (pt_not (pt_val (pe_callB (call_isiCK K rfl) (by rfl) B.b_isinstance boot_isinstance (pa_cons (pv 3) (pa_cons (pe_glob (v := .ref cA) rfl T.gA rfl) pa_nil))))) (pw_or (pt_not (pt_val (pe_callB (call_isiCK K rfl) (by rfl) B.b_isinstance boot_isinstance (pa_cons (pv 3) (pa_cons (pe_glob (v := .ref cR) rfl T.gR rfl) pa_nil))))) (pw_or1 (pt_cmpR (op_neL hu0) (pv 2) (pv 0) (nomark _))))))
        (pss_one (ps_ret pe_bl))
        pss_nil)
      (pss_cons (ps_if (pt_val (pe_callB (call_anyB rfl) (by rfl) B.b_any boot_any (pa_cons (pe_lst (pa_cons (pe_callB (call_isiCK K rfl) (by rfl) B.b_isinstance boot_isinstance (pa_cons (pv 3) (pa_cons (pe_glob (v := .ref cC) rfl T.gC rfl) pa_nil))) (pa_cons (pe_callB (call_isiCK K rfl) (by rfl) B.b_isinstance boot_isinstance (pa_cons (pv 3) (pa_cons (pe_glob (v := .ref cF) rfl T.gF rfl) pa_nil))) (pa_cons (pe_callB (call_isiCK K rfl) (by rfl) B.b_isinstance boot_isinstance (pa_cons (pv 3) (pa_cons (pe_glob (v := .ref cH) rfl T.gH rfl) pa_nil))) (pa_cons (pe_callB (call_isiCK K rfl) (by rfl) B.b_isinstance boot_isinstance (pa_cons (pv 3) (pa_cons (pe_glob (v := .ref cS) rfl T.gS rfl) pa_nil))) pa_nil))))) pa_nil)))
        (pss_one (ps_ret pe_bl))
        pss_nil)
      (pss_cons (ps_if (PW.pt (pw_or (pt_not (pt_val (pe_callD d_law_numbers (hr.mono (by decide)) (by rfl) (pa_cons (pe_fldvK K rfl (pv 3) rfl) pa_nil)))) (pw_or (pt_not (pt_val (pe_callD d_law_rights (hr.mono (by decide)) (by rfl) (pa_cons (pv 0) (pa_cons (pe_fldvK K rfl (pv 3) rfl) pa_nil))))) (pw_or1 (pt_cmpR op_isnotB (pe_methD m_Rights_shows (hr.mono (by decide)) (pv 3) (pa_cons (pv 0) pa_nil)) pe_bl (nomark _))))))
        (pss_one (ps_ret pe_bl))
        pss_nil)
      (pss_cons (ps_if (PW.pt (pw_or (pt_cmpR op_ne (pe_methD m_Rights_shows (hr.mono (by decide)) (pv 3) (pa_cons (pv 1) pa_nil)) (pe_callD d_law_rights (hr.mono (by decide)) (by rfl) (pa_cons (pv 1) (pa_cons (pe_fldvK K rfl (pv 3) rfl) pa_nil))) (nomark _)) (pw_or1 (pt_cmpR op_gt (pe_callB (call_len_seqK K rfl) (by rfl) B.b_len boot_len (pa_cons (pe_fld (pe_callD d_fewest (hr.mono (by decide)) (by rfl) (pa_cons (pv 0) pa_nil)) rfl) pa_nil)) (pe_callB (call_len_seqK K rfl) (by rfl) B.b_len boot_len (pa_cons (pe_fldvK K rfl (pv 3) rfl) pa_nil)) (nomark _)))))
        (pss_one (ps_ret pe_bl))
        pss_nil)
      (pss_cons (ps_for PassesOwn.never rfl (pi_list (pe_lst (pa_cons (pe_slice (sl_listK K rfl) (pe_fldvK K rfl (pv 3) rfl) (po_some pe_int) po_none) (pa_cons (pe_slice (sl_listK K rfl) (pe_fldvK K rfl (pv 3) rfl) po_none (po_some (pe_un un_neg pe_int))) (pa_cons (pe_op op_cat (pe_fldvK K rfl (pv 3) rfl) (pe_lst (pa_cons (pe_callB (call_len_seqK K rfl) (by rfl) B.b_len boot_len (pa_cons (pv 0) pa_nil)) pa_nil))) (pa_cons (pe_sliceS (pe_fldvK K rfl (pv 3) rfl) po_none po_none (pe_un un_neg pe_int)) pa_nil)))))) (pg_name (i := 4) scRight.nd rfl (Or.inl rfl))
        (pss_one (ps_if (pt_cmpR op_ne (pe_methD m_Rights_shows (hr.mono (by decide)) (pe_makeD c_Rights (hr.mono (by decide)) (by rfl) (pa_cons (pv 4) pa_nil)) (pa_cons (pv 0) pa_nil)) (pe_callD d_law_rights (hr.mono (by decide)) (by rfl) (pa_cons (pv 0) (pa_cons (pv 4) pa_nil))) (nomark _))
          (pss_one (ps_ret pe_bl))
          pss_nil)))
      (pss_cons (ps_expr (pe_bm PySem.F.plainAttrs_list PySem.F.slot_list_append PySem.F.type_list_append mt_append (pe_fldvK K rfl (pv 3) rfl) (pa_cons pe_int pa_nil)))
      (pss_one (ps_ret (pe_cmpR op_isB (pe_methD m_Rights_shows (hr.mono (by decide)) (pv 3) (pa_cons (pv 0) pa_nil)) pe_bl (nomark _)))))))))))), ?_⟩
    -- handed, found
    refine ⟨_, rfl, a, xs, rfl, .inl (SqL.of ha), fun l1 n1 => ?_⟩
    have s1 := Same.upd (o := .lst xs) n1
    have e1 : (L2.upd H l1 (.lst xs)) l1 = some (.lst xs) := upd_same
    generalize L2.upd H l1 (.lst xs) = H1 at s1 e1 ⊢
    refine ⟨_, rfl, l1, r, rfl, ⟨⟨xs, e1, RowV.same s1 hx⟩, g, hle⟩, fun p dx ls H2 np nls s2 hp hls => ?_⟩
    have s02 := s1.trans s2
    -- its class, the row as it was
    refine ⟨_, rfl, _, _, _, true, rfl, T.tyR hp, T.kRA, _, rfl, iteF ⟨_, rfl, _, _, _, true, rfl, T.tyR hp, T.kRR, _, rfl, iteF ⟨_, rfl, _, rfl, l1, a, _, rfl, rfl, .rL (r := r) (r' := r) (SqL.of (s2 _ _ e1)) (RowV.same s02 hx) (SqL.of (s02 _ _ ha)) (RowV.same s02 hx), _, rfl, ?_⟩⟩⟩
    rw [decide_eq_true rfl]
    refine iteF ?_
    refine ⟨_, rfl, _, _, _, false, rfl, T.tyR hp, T.kRC, rd_isiv rfl (T.tyR hp) T.kRF (rd_isiv rfl (T.tyR hp) T.kRH (rd_isiv rfl (T.tyR hp) T.kRS ⟨(by show 4 ≤ sizeLine; decide), fun l2 n2 => ⟨l2, [false, false, false, false], rfl, SqL.of upd_same, _, rfl, iteF ?_⟩⟩))⟩
    have s3 := Same.upd (o := .lst [V.bl false, V.bl false, V.bl false, V.bl false]) n2
    generalize L2.upd H2 l2 (.lst [V.bl false, V.bl false, V.bl false, V.bl false]) = H3 at s3 ⊢
    have s03 := s02.trans s3
    have hp3 := s3 _ _ hp
    have hl3 := s3 _ _ hls
    -- its stones by an own look, its own word
    refine ⟨_, at_stones T rfl hp3, ls, unk r, rfl, hl3, by omega, fun H4 s4 => ⟨_, rfl, iteF ?_⟩⟩
    refine ⟨_, rfl, _, at_stones T rfl (s4 _ _ hp3), a, ls, r, unk r, rfl, R.same (s03.trans s4), s4 _ _ hl3, .inl (by omega), fun H5 s5 => ⟨_, rfl, ?_⟩⟩
    rw [decide_eq_true rfl]
    have s35 := s4.trans s5
    refine iteF (rd_methv rfl (s35 _ _ hp3) (cf_shows _) ⟨_, rfl, p, dx, ls, unk r, a, r, rfl, s35 _ _ hp3, s35 _ _ hl3, R.same (s03.trans s35), fun H6 s6 => ⟨_, true, rfl, rfl, _, rfl, ?_⟩⟩)
    rw [decide_eq_true rfl]
    have s36 := s35.trans s6
    -- the row beside, the fewest
    refine iteF (rd_methv rfl (s36 _ _ hp3) (cf_shows _) ⟨_, rfl, p, dx, ls, unk r, b, r2, rfl, s36 _ _ hp3, s36 _ _ hl3, R2.same (s03.trans s36), fun H7 s7 => ?_⟩)
    have s37 := s36.trans s7
    refine ⟨_, rfl, _, at_stones T rfl (s37 _ _ hp3), b, ls, r2, unk r, rfl, R2.same (s03.trans s37), s37 _ _ hl3, .inl (by omega), fun H8 s8 => ⟨rfl, _, rfl, ?_⟩⟩
    have s38 := s37.trans s8
    rw [dec_bl]
    refine iteF ⟨_, rfl, a, r, rfl, R.same (s03.trans s38), by omega, fun p2 dx2 l3 l4 zs H9 s9 hp9 hl9 hzs => ⟨p2, cF, dx2, _, _, rfl, hp9, T.lF, T.nF1, ff_pushes _ _, l3, zs, rfl, .inl (SqL.of hl9), _, at_stones T rfl ((s38.trans s9) _ _ hp3), ls, _, rfl, .inl (SqL.of ((s38.trans s9) _ _ hl3)), rd_op ⟨_, rfl, ?_⟩⟩⟩
    have s39 := s38.trans s9
    rw [decide_eq_false (show ¬ ((zs.length : Nat) : Int) > ((((unk r).map V.int).length : Nat) : Int) by rw [List.length_map]; omega)]
    have s09 := s03.trans s39
    have hp9' := s39 _ _ hp3
    have hl9' := s39 _ _ hl3
    clear hl9 hp9 hzs s38 s37 s36 s35 s7 s8 s9 s6 s5 s4
    -- other stones
    refine iteF ⟨_, at_stones T rfl hp9', _, rfl, ls, _, rfl, SqL.of hl9', fun q1 m1 => ?_⟩
    have x1 := Same.upd (o := .lst (cutV ((unk r).map V.int) (some 1) none)) m1
    refine ⟨_, at_stones T rfl (x1 _ _ hp9'), _, rfl, _, rfl, ls, _, rfl, SqL.of (x1 _ _ hl9'), fun q2 m2 => ?_⟩
    have x2 := Same.upd (o := .lst (cutV ((unk r).map V.int) none (some (-1)))) m2
    refine ⟨_, at_stones T rfl (x2 _ _ (x1 _ _ hp9')), _, rfl, a, xs, rfl, .inl (SqL.of (x2 _ _ (x1 _ _ (s09 _ _ ha)))), (by show 1 ≤ sizeLine; decide), fun q3 m3 => ?_⟩
    have x3 := Same.upd (o := .lst [V.int (xs.length : Int)]) m3
    refine ⟨ls, q3, _, _, rfl, rfl, x3 _ _ (x2 _ _ (x1 _ _ hl9')), upd_same, Nat.le_of_lt (small1000 (by rw [List.length_map]; show _ + 1 ≤ _; omega)), fun q4 m4 => ?_⟩
    have x4 := Same.upd (o := .lst ((unk r).map V.int ++ [V.int (xs.length : Int)])) m4
    refine ⟨_, at_stones T rfl (x4 _ _ (x3 _ _ (x2 _ _ (x1 _ _ hp9')))), _, rfl, ls, _, _, rfl, rfl, (by decide : (-1 : Int) ≠ 0), SqL.of (x4 _ _ (x3 _ _ (x2 _ _ (x1 _ _ hl9')))), ?_, fun q5 m5 => ⟨(by show 4 ≤ sizeLine; decide), fun l6 n6 => ?_⟩⟩
    · rw [pick_rev, List.length_reverse, List.length_map]; exact Nat.le_of_lt (small1000 (by omega))
    have x5 := Same.upd (o := .lst (pickV ((unk r).map V.int) none none (some (-1)))) m5
    have x6 := Same.upd (o := .lst [V.ref q1, V.ref q2, V.ref q4, V.ref q5]) n6
    have f1 := x6 _ _ (x5 _ _ (x4 _ _ (x3 _ _ (x2 q1 _ upd_same))))
    have f2 := x6 _ _ (x5 _ _ (x4 _ _ (x3 q2 _ upd_same)))
    have f4 := x6 _ _ (x5 q4 _ upd_same)
    have f5 := x6 q5 _ upd_same
    have x06 := ((((x1.trans x2).trans x3).trans x4).trans x5).trans x6
    rw [show (1 : Int) = ((1 : Nat) : Int) from rfl] at f1
    have f1' : ∃ ts : List Int, cutV ((unk r).map V.int) (some ((1 : Nat) : Int)) none = ts.map V.int ∧ ts.length ≤ 63 := by
      by_cases c : 1 ≤ (unk r).length
      · exact ⟨(unk r).drop 1, by rw [cut_from _ _ (by rw [List.length_map]; exact c), List.map_drop], by rw [List.length_drop]; omega⟩
      · have e : unk r = [] := List.length_eq_zero_iff.mp (by omega)
        rw [e]
        exact ⟨[], rfl, by decide⟩
    have hset : ∀ (i : Nat) (x : V), [V.ref q1, V.ref q2, V.ref q4, V.ref q5][i]? = some x → ∃ (t : Addr) (ts : List Int), x = .ref t ∧ (L2.upd (L2.upd (L2.upd (L2.upd (L2.upd (L2.upd H9 q1 (.lst (cutV ((unk r).map V.int) (some 1) none))) q2 (.lst (cutV ((unk r).map V.int) none (some (-1))))) q3 (.lst [V.int (xs.length : Int)])) q4 (.lst ((unk r).map V.int ++ [V.int (xs.length : Int)]))) q5 (.lst (pickV ((unk r).map V.int) none none (some (-1))))) l6 (.lst [V.ref q1, V.ref q2, V.ref q4, V.ref q5])) t = some (.lst (ts.map V.int)) ∧ (ts.length < 64 ∨ ts.length = 64 ∧ ts.Pairwise (· ≤ ·)) := by
      intro i x hi
      rcases get4 hi with rfl | rfl | rfl | rfl
      · obtain ⟨ts, e, hz⟩ := f1'
        exact ⟨q1, ts, rfl, by rw [← e]; exact f1, .inl (by omega)⟩
      · refine ⟨q2, (unk r).dropLast, rfl, ?_, .inl (by rw [List.length_dropLast]; omega)⟩
        rw [f2, cut_last, List.map_dropLast]
      · refine ⟨q4, unk r ++ [(xs.length : Int)], rfl, by rw [f4, List.map_append]; rfl, ?_⟩
        have up := snoc_up (n := (xs.length : Int)) (unk_rise r) fun x hx => by
          obtain ⟨k, rfl, hk, _⟩ := mem_unk.mp hx
          omega
        rw [List.length_append]
        by_cases c : (unk r).length < 63
        · exact .inl (by show _ + 1 < 64; omega)
        · exact .inr ⟨by show _ + 1 = 64; omega, up⟩
      · refine ⟨q5, (unk r).reverse, rfl, ?_, .inl (by rw [List.length_reverse]; omega)⟩
        rw [f5, pick_rev, List.map_reverse]
    have h6 : (L2.upd (L2.upd (L2.upd (L2.upd (L2.upd (L2.upd H9 q1 (.lst (cutV ((unk r).map V.int) (some 1) none))) q2 (.lst (cutV ((unk r).map V.int) none (some (-1))))) q3 (.lst [V.int (xs.length : Int)])) q4 (.lst ((unk r).map V.int ++ [V.int (xs.length : Int)]))) q5 (.lst (pickV ((unk r).map V.int) none none (some (-1))))) l6 (.lst [V.ref q1, V.ref q2, V.ref q4, V.ref q5])) l6 = some (.lst [V.ref q1, V.ref q2, V.ref q4, V.ref q5]) := upd_same
    generalize (L2.upd (L2.upd (L2.upd (L2.upd (L2.upd (L2.upd H9 q1 (.lst (cutV ((unk r).map V.int) (some 1) none))) q2 (.lst (cutV ((unk r).map V.int) none (some (-1))))) q3 (.lst [V.int (xs.length : Int)])) q4 (.lst ((unk r).map V.int ++ [V.int (xs.length : Int)]))) q5 (.lst (pickV ((unk r).map V.int) none none (some (-1))))) l6 (.lst [V.ref q1, V.ref q2, V.ref q4, V.ref q5])) = HA at hset h6 x06 ⊢
    clear f1 f1' f2 f4 f5 x1 x2 x3 x4 x5 x6
    have s0A := s09.trans x06
    have hpA := x06 _ _ hp9'
    have hlA := x06 _ _ hl9'
    refine ⟨l6, rfl, ⟨_, SqL.of h6⟩, for_list (K := K) (a := l6) (xs := [.ref q1, .ref q2, .ref q4, .ref q5]) (fun i σ HB => (∃ v, σ = [some (.ref a), some (.ref b), some (.ref l1), some (.ref p), v]) ∧ Same HA HB) ⟨⟨none, rfl⟩, fun _ _ z => z⟩ (fun i σ HB _ ⟨_, e⟩ => SqL.of (e _ _ h6)) ?_ ?_⟩
    · rintro i x σ HB hi ⟨⟨v, rfl⟩, sB⟩
      obtain ⟨t, ts, rfl, ht, hts⟩ := hset i x hi
      have htB := sB _ _ ht
      refine ⟨_, rfl, fun y dy ny ndy ney => ?_⟩
      have cy : ∀ c u, HB c = some u → (L2.upd (L2.upd HB dy (.own y)) y (.ins cR dy [])) c = some u := fun c u z => by rw [upd_ne (ne_of_none z ny), upd_ne (ne_of_none z ndy)]; exact z
      refine ⟨y, dy, t, _, rfl, upd_same, cy _ _ htB, fun l' HC n' e' y' k' => ⟨rfl, ?_⟩⟩
      have sC : Same HB HC := fun c u z => by
        have z1 := cy _ _ z
        rw [k' c (ne_of_none z ny) (ne_of_none z1 n')]
        exact z1
      have s0C := s0A.trans (sB.trans sC)
      refine ⟨y, dy, _, rfl, y', cf_shows _, _, rfl, y, dy, l', ts, a, r, rfl, y', e', R.same s0C, fun HD sD => ?_⟩
      refine ⟨_, rfl, _, rfl, a, t, r, ts, rfl, R.same (s0C.trans sD), sD _ _ (sC _ _ htB), hts, fun HE sE => ⟨rfl, _, rfl, ?_⟩⟩
      rw [dec_bl]
      exact iteF ⟨⟨_, rfl⟩, ((sB.trans sC).trans sD).trans sE⟩
    · rintro σ HB ⟨⟨v, rfl⟩, sB⟩
      have nls0 : H ls = none := s1.free nls
      have s0B := s0A.trans sB
      refine ⟨_, at_stones T rfl (sB _ _ hpA), .inl ⟨rfl, _, SqL.of (sB _ _ hlA)⟩, ls, _, _, rfl, rfl, sB _ _ hlA, small1000 (by rw [List.length_map]; omega), ?_⟩
      have pls : p ≠ ls := fun z => by rw [z] at hpA; rw [hlA] at hpA; cases hpA
      have sF : Same H (L2.upd HB ls (.lst ((unk r).map V.int ++ [V.int 0]))) := s0B.upd' nls0
      have hpF : (L2.upd HB ls (.lst ((unk r).map V.int ++ [V.int 0]))) p = some (.ins cR dx (cf ls)) := by rw [upd_ne pls]; exact sB _ _ hpA
      refine rd_methv rfl hpF (cf_shows _) ⟨_, rfl, p, dx, ls, unk r ++ [0], a, r, rfl, hpF, by rw [upd_same, List.map_append]; rfl, R.same sF, fun HG sG => ⟨_, false, rfl, rfl, ?_⟩⟩
      rw [decide_eq_false (show ¬ unk r ++ [0] = unk r from fun z => by have := congrArg List.length z; rw [List.length_append] at this; exact absurd this (by show ¬ _ + 1 = _; omega))]
      exact q HG (sF.trans sG)
theorem sIx_nat (n d k : Nat) : HT.sIx n d (some (k : Int)) = min k n := by
  unfold HT.sIx
  simp only [if_neg (show ¬ (k : Int) < 0 by omega), Int.toNat_natCast]
theorem cut_f (xs : List V) (n : Nat) : cutV xs (some (n : Int)) none = xs.drop n := by
  unfold cutV
  rw [sIx_nat]
  show (xs.drop (min n xs.length)).take (xs.length - min n xs.length) = _
  by_cases c : n ≤ xs.length
  · rw [Nat.min_eq_left c, ← List.length_drop, List.take_length]
  · rw [Nat.min_eq_right (by omega), List.drop_length, List.drop_eq_nil_of_le (by omega), List.take_nil]
theorem cut_t (xs : List V) (n : Nat) : cutV xs none (some (n : Int)) = xs.take n := by
  unfold cutV
  rw [sIx_nat]
  show xs.take (min n xs.length - 0) = _
  rw [Nat.sub_zero]
  by_cases c : n ≤ xs.length
  · rw [Nat.min_eq_left c]
  · rw [Nat.min_eq_right (by omega), List.take_length, List.take_of_length_le (by omega)]
theorem cut_m (xs : List V) (k : Nat) : cutV xs (some (k : Int)) (some ((k : Int) + 1)) = (xs.drop k).take 1 := by
  unfold cutV
  rw [show ((k : Int) + 1) = ((k + 1 : Nat) : Int) from rfl, sIx_nat, sIx_nat]
  by_cases c : k < xs.length
  · rw [Nat.min_eq_left (by omega), Nat.min_eq_left (by omega), Nat.add_sub_cancel_left]
  · rw [Nat.min_eq_right (by omega), Nat.min_eq_right (by omega), List.drop_length, List.drop_eq_nil_of_le (by omega)]
    simp
theorem RowV.drop {H : Hp} : ∀ {xs : List V} {r : Row} (n : Nat), RowV H xs r → RowV H (xs.drop n) (r.drop n)
  | _, _, 0, h => h
  | _, _, _ + 1, .nil => .nil
  | _, _, n + 1, .cons _ t => RowV.drop n t
theorem RowV.rev {H : Hp} {xs : List V} {r : Row} (h : RowV H xs r) : RowV H xs.reverse r.reverse := by
  induction h with
  | nil => exact .nil
  | cons a _ ih =>
    rw [List.reverse_cons, List.reverse_cons]
    exact RowV.snoc ih a
theorem RowV.pick {H : Hp} {xs : List V} {r : Row} (h : RowV H xs r) : ∀ ks : List Nat, RowV H (ks.filterMap (xs[·]?)) (ks.filterMap (r[·]?))
  | [] => .nil
  | k :: ks => by
    cases e : xs[k]? with
    | none =>
      have : r[k]? = none := by
        rw [List.getElem?_eq_none_iff] at e ⊢
        rw [← h.length]; exact e
      rw [List.filterMap_cons_none e, List.filterMap_cons_none this]
      exact RowV.pick h ks
    | some x =>
      obtain ⟨p, ep, hp⟩ := paired_get h k e
      rw [List.filterMap_cons_some e, List.filterMap_cons_some ep]
      exact .cons hp (RowV.pick h ks)
theorem two_bounds (n : Nat) : sliceBounds none none (some 2) n = (0, (n : Int), 2) := by
  first
  | rfl
  | simp [sliceBounds]
noncomputable def ks2 (n : Nat) : List Nat := sliceRange 0 (n : Int) 2
theorem ks2_up (n : Nat) : (ks2 n).Pairwise (· < ·) := by
  unfold ks2 sliceRange
  rw [List.pairwise_map]
  exact (List.pairwise_lt_range (n := _)).imp fun {i j} h => by omega
theorem ks2_len (n : Nat) : (ks2 n).length ≤ n := by
  unfold ks2 sliceRange
  rw [List.length_map, List.length_range, if_pos (by decide)]
  split <;> omega
theorem pick_two (xs : List V) : pickV xs none none (some 2) = (ks2 xs.length).filterMap (xs[·]?) := by
  unfold pickV ks2
  rw [two_bounds]
theorem good_nil : Good [] := ⟨fun i j _ h => absurd h (Nat.not_lt_zero _), fun i h => absurd h (Nat.not_lt_zero _)⟩
theorem scLaw : FnScope ["_law_script", "_law_row_here", "_law_at", "_law_near", "_law_turned"] ["_law_script"] (defScope sLaw) := ⟨rfl, rfl, rfl, by decide +kernel, rfl, by decide +kernel, by decide +kernel⟩
theorem ok_law {f : Addr} {fd : FuncData} (F : Fun K "law" "law" sLaw f fd) (B : Blt mg) (d_law_row : Dfn P w K mg base "_law_row" 1 ["_law_script"] (spRow K)) (d_law_right : Dfn P w K mg base "_law_right" 9 ["_law_row_here", "_law_beside"] (spRight4)) : FnOk P w K mg base CX0 10 f fd ["_law_script"] (spLaw K) := by
  refine F.ok scLaw (fun vs H Q E h => ?_) (fun cdv A outer s H vs Q E hr h => ?_)
  · obtain ⟨a, ns, rfl, _⟩ := h
    rfl
  · obtain ⟨a, ns, rfl, hS, h63, q⟩ := h
    have hu0 := hr.units
    refine ⟨_, (pss_cons (ps_set (i := 1) scLaw.nd rfl (Or.inl rfl) (pe_callD d_law_row (hr.mono (by decide)) (by rfl) (pa_cons (pv 0) pa_nil)))
      (pss_cons (ps_set (i := 2) scLaw.nd rfl (Or.inl rfl) (pe_op op_mod (pe_op op_fdivB (pe_callB (call_sumI rfl) (by rfl) B.b_sum boot_sum (pa_cons (pv 0) pa_nil)) pe_int) (pe_callB (call_max2 rfl) (by rfl) B.b_max boot_max (pa_cons pe_int (pa_cons (pe_callB (call_len_seqK K rfl) (by rfl) B.b_len boot_len (pa_cons (pv 1) pa_nil)) pa_nil)))))
      (pss_cons (ps_set (i := 3) scLaw.nd rfl (Or.inl rfl) (pe_op op_cat (pe_op op_cat (pe_slice (sl_listK K rfl) (pv 1) po_none (po_some (pv 2))) (pe_comp rfl (cap := [(0, "_law_script")]) (own := ["_law_place", "_law_height"]) (CompOk.of (outer := defScope sLaw) (N := ["_law_script", "_law_row_here", "_law_at", "_law_near", "_law_turned"]) rfl rfl (by decide +kernel)) (pi_list (pe_slice (sl_listK K rfl) (pv 1) (po_some (pv 2)) (po_some (pe_op op_add (pv 2) pe_int)))) (fun _ _ _ _ => ⟨(pg_tupK (n := 2) K rfl rfl (pgs_cons (pg_name (i := 1) (show List.Nodup (["_law_script", "_law_place", "_law_height"] : List Str) by decide +kernel) rfl (Or.inl rfl)) (pgs_cons (pg_name (i := 2) (show List.Nodup (["_law_script", "_law_place", "_law_height"] : List Str) by decide +kernel) rfl (Or.inl rfl)) pgs_nil))), pf_nil, (pe_tup (pa_cons (pv 1) (pa_cons (pe_op op_add (pe_op op_add (pv 2) pe_int) (pe_op op_mod (pe_callB (call_sumIK K rfl rfl) (by rfl) B.b_sum boot_sum (pa_cons (pv 0) pa_nil)) pe_int)) pa_nil)))⟩))) (pe_slice (sl_listK K rfl) (pv 1) (po_some (pe_op op_add (pv 2) pe_int)) po_none)))
      (pss_cons (ps_setComp (i := 4) rfl (hN := scLaw.nd) (hiN := rfl) (hy := (Or.inl rfl)) (cap := []) (own := ["_law_place", "_law_height"]) (O := (CompOk.of (outer := defScope sLaw) (N := ["_law_script", "_law_row_here", "_law_at", "_law_near", "_law_turned"]) rfl rfl (by decide +kernel))) (pi_list (pe_sliceS (pv 1) po_none po_none (pe_un un_neg pe_int))) (fun _ _ _ _ => ⟨(pg_tupK (n := 2) K rfl rfl (pgs_cons (pg_name (i := 0) (show List.Nodup (["_law_place", "_law_height"] : List Str) by decide +kernel) rfl (Or.inl rfl)) (pgs_cons (pg_name (i := 1) (show List.Nodup (["_law_place", "_law_height"] : List Str) by decide +kernel) rfl (Or.inl rfl)) pgs_nil))), pf_nil, (pe_tup (pa_cons (pe_un un_neg (pv 0)) (pa_cons (pv 1) pa_nil)))⟩))
      (pss_one (ps_ret (pe_and (pe_callD d_law_right (hr.mono (by decide)) (by rfl) (pa_cons (pv 1) (pa_cons (pv 3) pa_nil))) (pe_and (pe_callD d_law_right (hr.mono (by decide)) (by rfl) (pa_cons (pv 4) (pa_cons (pv 1) pa_nil))) (pe_and (pe_callD d_law_right (hr.mono (by decide)) (by rfl) (pa_cons (pe_sliceS (pv 1) po_none po_none pe_int) (pa_cons (pv 1) pa_nil))) (pe_one (pe_callD d_law_right (hr.mono (by decide)) (by rfl) (pa_cons (pe_lst pa_nil) (pa_cons (pv 1) pa_nil))))))))))))), ?_⟩
    refine ⟨_, rfl, a, ns, rfl, hS, h63, fun l1 H1 r n1 s1 R1 g hrl => ?_⟩
    have h63 : r.length ≤ 63 := by omega
    have hle : r.length ≤ 1000 := by omega
    obtain ⟨xs, h1, hx⟩ := id R1
    have hlen := hx.length
    have hS1 := s1.seq hS
    refine ⟨_, rfl, a, ns, rfl, hS1, _, _, rfl, rfl, ⟨by decide, by decide⟩, _, rfl, l1, xs, rfl, .inl (SqL.of h1), 1, _, rfl, rd_opC (by show (0 : Int) < (if (xs.length : Int) > 1 then (xs.length : Int) else 1); split <;> omega) ?_⟩
    obtain ⟨k, ek⟩ : ∃ k : Nat, ns.sum / 3 % (if (xs.length : Int) > 1 then (xs.length : Int) else 1) = (k : Int) := ⟨_, (Int.toNat_of_nonneg (Int.emod_nonneg _ (by split <;> omega))).symm⟩
    rw [ek]
    clear ek
    -- near
    refine ⟨_, rfl, _, rfl, _, rfl, l1, xs, rfl, SqL.of h1, fun q1 m1 => ?_⟩
    rw [cut_t]
    have x1 := Same.upd (o := .lst (xs.take k)) m1
    have e1 : (L2.upd H1 q1 (.lst (xs.take k))) q1 = some (.lst (xs.take k)) := upd_same
    generalize L2.upd H1 q1 (.lst (xs.take k)) = H2 at x1 e1 ⊢
    refine ⟨_, rfl, _, rfl, _, rfl, _, rfl, rd_op ⟨_, rfl, l1, xs, rfl, SqL.of (x1 _ _ h1), fun q2 m2 => ⟨q2, rfl, ⟨_, SqL.of upd_same⟩, ?_⟩⟩⟩
    rw [cut_m]
    have x2 := Same.upd (o := .lst ((xs.drop k).take 1)) m2
    have e2 : (L2.upd H2 q2 (.lst ((xs.drop k).take 1))) q2 = some (.lst ((xs.drop k).take 1)) := upd_same
    generalize L2.upd H2 q2 (.lst ((xs.drop k).take 1)) = H3 at x2 e2 ⊢
    have x12 := x1.trans x2
    refine comp_row (K := K) (a := q2) (fun p => (p.1, p.2 + 1 + ns.sum % 5)) e2 (RowV.take 1 (RowV.drop k (RowV.same x12 hx))) (by rw [List.length_take]; omega) ?_ ?_
    · rintro t p H' Q1 Q2 s' ht q1'
      exact rd_tup2 (SqT.of ht) ⟨⟨rfl, rfl⟩, _, rfl, _, rfl, rd_op ⟨_, rfl, a, ns, rfl, (x12.trans s').seq hS1, rd_opC (by show (0 : Int) < 5; decide) (rd_op ⟨two_ok, fun u hu => q1' u hu⟩)⟩⟩
    intro D H4 nD x4 RD
    obtain ⟨ys, hys, vys⟩ := id RD
    have yl := vys.length
    rw [List.length_map, List.length_take] at yl
    refine ⟨q1, D, _, _, rfl, rfl, (x2.trans x4) _ _ e1, hys, Nat.le_of_lt (small1000 (by rw [List.length_take]; omega)), fun q3 m3 => ?_⟩
    have x5 := Same.upd (o := .lst (xs.take k ++ ys)) m3
    refine ⟨_, rfl, _, rfl, rd_op ⟨_, rfl, l1, xs, rfl, SqL.of ((x12.trans (x4.trans x5)) _ _ h1), fun q4 m4 => ?_⟩⟩
    have ef : cutV xs (some ((k : Int) + 1)) none = xs.drop (k + 1) := cut_f xs (k + 1)
    rw [ef]
    have x6 := Same.upd (o := .lst (xs.drop (k + 1))) m4
    refine ⟨q3, q4, _, _, rfl, rfl, x6 q3 _ upd_same, upd_same, Nat.le_of_lt (small1000 (by rw [List.length_append, List.length_take, List.length_drop]; omega)), fun q5 m5 => ?_⟩
    have x7 := Same.upd (o := .lst (xs.take k ++ ys ++ xs.drop (k + 1))) m5
    have x17 := x12.trans (x4.trans (x5.trans (x6.trans x7)))
    have Rn : RowOk (L2.upd (L2.upd (L2.upd H4 q3 (.lst (xs.take k ++ ys))) q4 (.lst (xs.drop (k + 1)))) q5 (.lst (xs.take k ++ ys ++ xs.drop (k + 1)))) q5 (r.take k ++ ((r.drop k).take 1).map (fun p => (p.1, p.2 + 1 + ns.sum % 5)) ++ r.drop (k + 1)) :=
      ⟨⟨_, upd_same, RowV.app (RowV.app (RowV.take k (RowV.same x17 hx)) (RowV.same (x5.trans (x6.trans x7)) vys)) (RowV.drop (k + 1) (RowV.same x17 hx))⟩, g.near k (Int.emod_nonneg _ (by decide)), by rw [near_len]; exact hle⟩
    generalize L2.upd (L2.upd (L2.upd H4 q3 (.lst (xs.take k ++ ys))) q4 (.lst (xs.drop (k + 1)))) q5 (.lst (xs.take k ++ ys ++ xs.drop (k + 1))) = H5 at x17 Rn ⊢
    clear x1 x2 x4 x5 x6 x7 x12 e1 e2 RD vys hys
    -- turned
    refine ⟨_, rfl, _, rfl, l1, xs, _, rfl, rfl, (by decide : (-1 : Int) ≠ 0), SqL.of (x17 _ _ h1), ?_, fun l2 n2 => ?_⟩
    · rw [pick_rev, List.length_reverse, hlen]; exact Nat.le_of_lt (len_ok hle)
    rw [pick_rev]
    have y2 := Same.upd (o := .lst xs.reverse) n2
    have e2 : (L2.upd H5 l2 (.lst xs.reverse)) l2 = some (.lst xs.reverse) := upd_same
    generalize L2.upd H5 l2 (.lst xs.reverse) = H6 at y2 e2 ⊢
    have x16 := x17.trans y2
    refine ⟨l2, rfl, ⟨_, SqL.of e2⟩, comp_row (K := K) (a := l2) (fun p => (-p.1, p.2)) e2 (RowV.rev (RowV.same x16 hx)) (by rw [List.length_reverse]; exact hle) ?_ ?_⟩
    · rintro t p H' Q1 Q2 _ ht q1
      exact rd_tup2 (SqT.of ht) ⟨⟨rfl, rfl⟩, _, rfl, _, rfl, _, rfl, two_ok, fun u hu => q1 u hu⟩
    intro l3 H7 n3 s3 R3
    have em : r.reverse.map (fun p => (-p.1, p.2)) = mir r := by unfold mir; rw [List.map_reverse]
    rw [em] at R3
    have z7 := x16.trans s3
    refine ⟨_, rfl, _, rfl, l1, r, q5, _, rfl, ⟨R1.same z7, g, hle⟩, h63, Rn.same (y2.trans s3), fun H8 s8 => ⟨_, rfl, iteT ?_⟩⟩
    have z8 := z7.trans s8
    refine ⟨_, rfl, _, rfl, l3, mir r, l1, r, rfl, ⟨R3.same s8, g.mir, by rw [mir_length]; exact hle⟩, by rw [mir_length]; exact h63, ⟨R1.same z8, g, hle⟩, fun H9 s9 => ⟨_, rfl, iteT ?_⟩⟩
    have z9 := z8.trans s9
    have kl := ks2_len xs.length
    have kf : ((ks2 xs.length).filterMap (r[·]?)).length ≤ xs.length := Nat.le_trans (List.length_filterMap_le _ _) kl
    refine ⟨_, rfl, l1, xs, _, rfl, rfl, (by decide : (2 : Int) ≠ 0), SqL.of (z9 _ _ h1), ?_, fun q6 m6 => ?_⟩
    · rw [pick_two]
      exact Nat.le_trans (List.length_filterMap_le _ _) (Nat.le_of_lt (small1000 (by omega)))
    rw [pick_two]
    have xa := Same.upd (o := .lst ((ks2 xs.length).filterMap (xs[·]?))) m6
    have za := z9.trans xa
    refine ⟨_, rfl, q6, _, l1, r, rfl, ⟨⟨_, upd_same, RowV.pick (RowV.same za hx) (ks2 xs.length)⟩, g.pick (ks2_up _), by omega⟩, by omega, ⟨R1.same za, g, hle⟩, fun HB sB => ⟨_, rfl, iteT ?_⟩⟩
    exact ⟨zero_ok, fun q7 m7 => ⟨_, rfl, q7, [], l1, r, rfl, ⟨⟨_, upd_same, .nil⟩, good_nil, by decide⟩, by decide, ⟨R1.same ((za.trans sB).trans (Same.upd m7)), g, hle⟩, fun HC sC => q _⟩⟩
end
end Fk

set_option genSizeOf false
set_option genInjectivity false
namespace Fk
open PySem L2 PyProof.Rows Fm
theorem all_mk {l : PySem.W.OpenLaw} {w : World} {K : PySem.W.Frag} {h : Heap} {mg : Str → Option Value} {fa f1 f2 f3 f4 f5 f6 f7 f8 f9 f10 f11 f12 f13 f14 f15 f16 f17 f18 f19 f20 f21 f22 f23 f24 cA cC cS cF cR cH : Addr} {tk0 : Tok} {tk1 : Tok}  (X : K.In h) (G : h.Ns mainGlobals mg) (hfa : mg "law" = some (.ref fa))
    {od1 an1 od2 an2 od3 an3 od4 an4 od5 an5 od6 an6 od7 an7 od8 an8 od9 an9 od10 an10 od11 an11 od12 an12 od13 an13 od14 an14 od15 an15 od16 an16 od17 an17 od18 an18 od19 an19 od20 an20 od21 an21 od22 an22 od23 an23 od24 an24 : Option Addr} {sl1 sl2 sl3 sl4 sl5 sl6 sl7 sl8 sl9 sl10 sl11 sl12 sl13 sl14 sl15 sl16 sl17 sl18 sl19 sl20 sl21 sl22 sl23 sl24 : Array (Option Value)} {oc1 kV1 dc1 pm1 cd1 ct1 oc2 kV2 dc2 pm2 cd2 ct2 oc3 kV3 dc3 pm3 cd3 ct3 oc4 kV4 dc4 pm4 cd4 ct4 oc5 kV5 dc5 pm5 cd5 ct5 oc6 kV6 dc6 pm6 cd6 ct6 oc7 kV7 dc7 pm7 cd7 ct7 oc8 kV8 dc8 pm8 cd8 ct8 oc9 kV9 dc9 pm9 cd9 ct9 oc10 kV10 dc10 pm10 cd10 ct10 oc11 kV11 dc11 pm11 cd11 ct11 oc12 kV12 dc12 pm12 cd12 ct12 oc13 kV13 dc13 pm13 cd13 ct13 oc14 kV14 dc14 pm14 cd14 ct14 oc15 kV15 dc15 pm15 cd15 ct15 oc16 kV16 dc16 pm16 cd16 ct16 oc17 kV17 dc17 pm17 cd17 ct17 oc18 kV18 dc18 pm18 cd18 ct18 oc19 kV19 dc19 pm19 cd19 ct19 oc20 kV20 dc20 pm20 cd20 ct20 oc21 kV21 dc21 pm21 cd21 ct21 oc22 kV22 dc22 pm22 cd22 ct22 oc23 kV23 dc23 pm23 cd23 ct23 oc24 kV24 dc24 pm24 cd24 ct24 : Value}
    (ugA : PySem.W.nsIn K mainGlobals "Answer" = some (some (.ref cA)))
    (ugC : PySem.W.nsIn K mainGlobals "Chain" = some (some (.ref cC)))
    (ugS : PySem.W.nsIn K mainGlobals "Stands" = some (some (.ref cS)))
    (ugF : PySem.W.nsIn K mainGlobals "Fewest" = some (some (.ref cF)))
    (ugR : PySem.W.nsIn K mainGlobals "Rights" = some (some (.ref cR)))
    (ugH : PySem.W.nsIn K mainGlobals "Higher" = some (some (.ref cH)))
    (a1 : PySem.W.nsIn K mainGlobals "_law_row" = some (some (.ref f1)))
    (l1 : K.lookup f1 = some ⟨oc1, od1, .func (PySem.W.fnOf "_law_row" "_law_row" (defArgs sRow) (defBody sRow) (defScope sRow) .none kV1 dc1 pm1 an1 cd1 ct1), sl1⟩)
    (c1 : PySem.W.codeIn K cd1 "_law_row" = true)
    (k1 : PySem.W.keepIn K (.ref f1) = true)
    (a2 : PySem.W.nsIn K mainGlobals "_law_numbers" = some (some (.ref f2)))
    (l2 : K.lookup f2 = some ⟨oc2, od2, .func (PySem.W.fnOf "_law_numbers" "_law_numbers" (defArgs sNums) (defBody sNums) (defScope sNums) .none kV2 dc2 pm2 an2 cd2 ct2), sl2⟩)
    (c2 : PySem.W.codeIn K cd2 "_law_numbers" = true)
    (k2 : PySem.W.keepIn K (.ref f2) = true)
    (a3 : PySem.W.nsIn K mainGlobals "is_pair" = some (some (.ref f3)))
    (l3 : K.lookup f3 = some ⟨oc3, od3, .func (PySem.W.fnOf "is_pair" "is_pair" (defArgs sPair) (defBody sPair) (defScope sPair) .none kV3 dc3 pm3 an3 cd3 ct3), sl3⟩)
    (c3 : PySem.W.codeIn K cd3 "is_pair" = true)
    (k3 : PySem.W.keepIn K (.ref f3) = true)
    (a4 : PySem.W.nsIn K mainGlobals "is_number" = some (some (.ref f4)))
    (l4 : K.lookup f4 = some ⟨oc4, od4, .func (PySem.W.fnOf "is_number" "is_number" (defArgs sNum) (defBody sNum) (defScope sNum) .none kV4 dc4 pm4 an4 cd4 ct4), sl4⟩)
    (c4 : PySem.W.codeIn K cd4 "is_number" = true)
    (k4 : PySem.W.keepIn K (.ref f4) = true)
    (a5 : PySem.W.nsIn K mainGlobals "is_stone" = some (some (.ref f5)))
    (l5 : K.lookup f5 = some ⟨oc5, od5, .func (PySem.W.fnOf "is_stone" "is_stone" (defArgs sStone) (defBody sStone) (defScope sStone) .none kV5 dc5 pm5 an5 cd5 ct5), sl5⟩)
    (c5 : PySem.W.codeIn K cd5 "is_stone" = true)
    (k5 : PySem.W.keepIn K (.ref f5) = true)
    (a6 : PySem.W.nsIn K mainGlobals "check_row" = some (some (.ref f6)))
    (l6 : K.lookup f6 = some ⟨oc6, od6, .func (PySem.W.fnOf "check_row" "check_row" (defArgs sChkRow) (defBody sChkRow) (defScope sChkRow) .none kV6 dc6 pm6 an6 cd6 ct6), sl6⟩)
    (c6 : PySem.W.codeIn K cd6 "check_row" = true)
    (k6 : PySem.W.keepIn K (.ref f6) = true)
    (a7 : PySem.W.nsIn K mainGlobals "first_standing" = some (some (.ref f7)))
    (l7 : K.lookup f7 = some ⟨oc7, od7, .func (PySem.W.fnOf "first_standing" "first_standing" (defArgs sFirst) (defBody sFirst) (defScope sFirst) .none kV7 dc7 pm7 an7 cd7 ct7), sl7⟩)
    (c7 : PySem.W.codeIn K cd7 "first_standing" = true)
    (k7 : PySem.W.keepIn K (.ref f7) = true)
    (a8 : PySem.W.nsIn K mainGlobals "unknocked" = some (some (.ref f8)))
    (l8 : K.lookup f8 = some ⟨oc8, od8, .func (PySem.W.fnOf "unknocked" "unknocked" (defArgs s_unknocked) (defBody s_unknocked) (defScope s_unknocked) .none kV8 dc8 pm8 an8 cd8 ct8), sl8⟩)
    (c8 : PySem.W.codeIn K cd8 "unknocked" = true)
    (k8 : PySem.W.keepIn K (.ref f8) = true)
    (a9 : PySem.W.findIn K (.ref cR) "__init__" = some (some (.ref f9)))
    (i9 : PySem.W.isFn K (.ref f9) = true)
    (l9 : K.lookup f9 = some ⟨oc9, od9, .func (PySem.W.fnOf "__init__" "Rights.__init__" (defArgs s_Rights_init) (defBody s_Rights_init) (defScope s_Rights_init) .none kV9 dc9 pm9 an9 cd9 ct9), sl9⟩)
    (c9 : PySem.W.codeIn K cd9 "Rights.__init__" = true)
    (k9 : PySem.W.keepIn K (.ref f9) = true)
    (a10 : PySem.W.nsIn K mainGlobals "rights" = some (some (.ref f10)))
    (l10 : K.lookup f10 = some ⟨oc10, od10, .func (PySem.W.fnOf "rights" "rights" (defArgs s_rights) (defBody s_rights) (defScope s_rights) .none kV10 dc10 pm10 an10 cd10 ct10), sl10⟩)
    (c10 : PySem.W.codeIn K cd10 "rights" = true)
    (k10 : PySem.W.keepIn K (.ref f10) = true)
    (a11 : PySem.W.nsIn K mainGlobals "_law_felled" = some (some (.ref f11)))
    (l11 : K.lookup f11 = some ⟨oc11, od11, .func (PySem.W.fnOf "_law_felled" "_law_felled" (defArgs s_law_felled) (defBody s_law_felled) (defScope s_law_felled) .none kV11 dc11 pm11 an11 cd11 ct11), sl11⟩)
    (c11 : PySem.W.codeIn K cd11 "_law_felled" = true)
    (k11 : PySem.W.keepIn K (.ref f11) = true)
    (a12 : PySem.W.nsIn K mainGlobals "_law_rights" = some (some (.ref f12)))
    (l12 : K.lookup f12 = some ⟨oc12, od12, .func (PySem.W.fnOf "_law_rights" "_law_rights" (defArgs s_law_rights) (defBody s_law_rights) (defScope s_law_rights) .none kV12 dc12 pm12 an12 cd12 ct12), sl12⟩)
    (c12 : PySem.W.codeIn K cd12 "_law_rights" = true)
    (k12 : PySem.W.keepIn K (.ref f12) = true)
    (a13 : PySem.W.nsIn K mainGlobals "every_push" = some (some (.ref f13)))
    (l13 : K.lookup f13 = some ⟨oc13, od13, .func (PySem.W.fnOf "every_push" "every_push" (defArgs s_every_push) (defBody s_every_push) (defScope s_every_push) .none kV13 dc13 pm13 an13 cd13 ct13), sl13⟩)
    (c13 : PySem.W.codeIn K cd13 "every_push" = true)
    (k13 : PySem.W.keepIn K (.ref f13) = true)
    (a14 : PySem.W.nsIn K mainGlobals "mirrored" = some (some (.ref f14)))
    (l14 : K.lookup f14 = some ⟨oc14, od14, .func (PySem.W.fnOf "mirrored" "mirrored" (defArgs sMirr) (defBody sMirr) (defScope sMirr) .none kV14 dc14 pm14 an14 cd14 ct14), sl14⟩)
    (c14 : PySem.W.codeIn K cd14 "mirrored" = true)
    (k14 : PySem.W.keepIn K (.ref f14) = true)
    (a15 : PySem.W.nsIn K mainGlobals "reach" = some (some (.ref f15)))
    (l15 : K.lookup f15 = some ⟨oc15, od15, .func (PySem.W.fnOf "reach" "reach" (defArgs s_reach) (defBody s_reach) (defScope s_reach) .none kV15 dc15 pm15 an15 cd15 ct15), sl15⟩)
    (c15 : PySem.W.codeIn K cd15 "reach" = true)
    (k15 : PySem.W.keepIn K (.ref f15) = true)
    (a16 : PySem.W.nsIn K mainGlobals "right_ends" = some (some (.ref f16)))
    (l16 : K.lookup f16 = some ⟨oc16, od16, .func (PySem.W.fnOf "right_ends" "right_ends" (defArgs s_right_ends) (defBody s_right_ends) (defScope s_right_ends) .none kV16 dc16 pm16 an16 cd16 ct16), sl16⟩)
    (c16 : PySem.W.codeIn K cd16 "right_ends" = true)
    (k16 : PySem.W.keepIn K (.ref f16) = true)
    (a17 : PySem.W.nsIn K mainGlobals "left_ends" = some (some (.ref f17)))
    (l17 : K.lookup f17 = some ⟨oc17, od17, .func (PySem.W.fnOf "left_ends" "left_ends" (defArgs s_left_ends) (defBody s_left_ends) (defScope s_left_ends) .none kV17 dc17 pm17 an17 cd17 ct17), sl17⟩)
    (c17 : PySem.W.codeIn K cd17 "left_ends" = true)
    (k17 : PySem.W.keepIn K (.ref f17) = true)
    (a18 : PySem.W.nsIn K mainGlobals "spans" = some (some (.ref f18)))
    (l18 : K.lookup f18 = some ⟨oc18, od18, .func (PySem.W.fnOf "spans" "spans" (defArgs s_spans) (defBody s_spans) (defScope s_spans) .none kV18 dc18 pm18 an18 cd18 ct18), sl18⟩)
    (c18 : PySem.W.codeIn K cd18 "spans" = true)
    (k18 : PySem.W.keepIn K (.ref f18) = true)
    (a19 : PySem.W.nsIn K mainGlobals "widest" = some (some (.ref f19)))
    (l19 : K.lookup f19 = some ⟨oc19, od19, .func (PySem.W.fnOf "widest" "widest" (defArgs s_widest) (defBody s_widest) (defScope s_widest) .none kV19 dc19 pm19 an19 cd19 ct19), sl19⟩)
    (c19 : PySem.W.codeIn K cd19 "widest" = true)
    (k19 : PySem.W.keepIn K (.ref f19) = true)
    (a20 : PySem.W.findIn K (.ref cF) "__init__" = some (some (.ref f20)))
    (i20 : PySem.W.isFn K (.ref f20) = true)
    (l20 : K.lookup f20 = some ⟨oc20, od20, .func (PySem.W.fnOf "__init__" "Fewest.__init__" (defArgs s_Fewest_init) (defBody s_Fewest_init) (defScope s_Fewest_init) .none kV20 dc20 pm20 an20 cd20 ct20), sl20⟩)
    (c20 : PySem.W.codeIn K cd20 "Fewest.__init__" = true)
    (k20 : PySem.W.keepIn K (.ref f20) = true)
    (a21 : PySem.W.nsIn K mainGlobals "fewest" = some (some (.ref f21)))
    (l21 : K.lookup f21 = some ⟨oc21, od21, .func (PySem.W.fnOf "fewest" "fewest" (defArgs s_fewest) (defBody s_fewest) (defScope s_fewest) .none kV21 dc21 pm21 an21 cd21 ct21), sl21⟩)
    (c21 : PySem.W.codeIn K cd21 "fewest" = true)
    (k21 : PySem.W.keepIn K (.ref f21) = true)
    (a22 : PySem.W.findIn K (.ref cR) "shows" = some (some (.ref f22)))
    (i22 : PySem.W.isFn K (.ref f22) = true)
    (l22 : K.lookup f22 = some ⟨oc22, od22, .func (PySem.W.fnOf "shows" "Rights.shows" (defArgs s_Rights_shows) (defBody s_Rights_shows) (defScope s_Rights_shows) .none kV22 dc22 pm22 an22 cd22 ct22), sl22⟩)
    (c22 : PySem.W.codeIn K cd22 "Rights.shows" = true)
    (k22 : PySem.W.keepIn K (.ref f22) = true)
    (a23 : PySem.W.nsIn K mainGlobals "_law_right" = some (some (.ref f23)))
    (l23 : K.lookup f23 = some ⟨oc23, od23, .func (PySem.W.fnOf "_law_right" "_law_right" (defArgs sRight) (defBody sRight) (defScope sRight) .none kV23 dc23 pm23 an23 cd23 ct23), sl23⟩)
    (c23 : PySem.W.codeIn K cd23 "_law_right" = true)
    (k23 : PySem.W.keepIn K (.ref f23) = true)
    (a24 : PySem.W.nsIn K mainGlobals "law" = some (some (.ref f24)))
    (l24 : K.lookup f24 = some ⟨oc24, od24, .func (PySem.W.fnOf "law" "law" (defArgs sLaw) (defBody sLaw) (defScope sLaw) .none kV24 dc24 pm24 an24 cd24 ct24), sl24⟩)
    (c24 : PySem.W.codeIn K cd24 "law" = true)
    (k24 : PySem.W.keepIn K (.ref f24) = true)
    (e0 : PySem.W.nsIn K mainGlobals "RIGHT" = some (some (.int (1) tk0)))
    (e1 : PySem.W.nsIn K mainGlobals "LEFT" = some (some (.int (-1) tk1)))
    (z0 : PySem.W.nsIn K mainGlobals "len" = some none)
    (z1 : PySem.W.nsIn K mainGlobals "isinstance" = some none)
    (z2 : PySem.W.nsIn K mainGlobals "int" = some none)
    (z3 : PySem.W.nsIn K mainGlobals "bool" = some none)
    (z4 : PySem.W.nsIn K mainGlobals "list" = some none)
    (z5 : PySem.W.nsIn K mainGlobals "tuple" = some none)
    (z6 : PySem.W.nsIn K mainGlobals "range" = some none)
    (z7 : PySem.W.nsIn K mainGlobals "reversed" = some none)
    (z8 : PySem.W.nsIn K mainGlobals "max" = some none)
    (z9 : PySem.W.nsIn K mainGlobals "abs" = some none)
    (z10 : PySem.W.nsIn K mainGlobals "sum" = some none)
    (z11 : PySem.W.nsIn K mainGlobals "all" = some none)
    (z12 : PySem.W.nsIn K mainGlobals "sorted" = some none)
    (z13 : PySem.W.nsIn K mainGlobals "set" = some none)
    (z14 : PySem.W.nsIn K mainGlobals "any" = some none)
    (z15 : PySem.W.nsIn K mainGlobals "min" = some none)
    (z16 : PySem.W.nsIn K mainGlobals "zip" = some none)
    (z17 : PySem.W.nsIn K mainGlobals "enumerate" = some none)
    (z18 : PySem.W.nsIn K mainGlobals "str" = some none)
    (p1lR : PySem.W.plainGet K cR Str.empty = true)
    (p2lR : PySem.W.hasDictIn K cR = true)
    (p3lR : PySem.W.plainOver K cR = true)
    (p4lR : PySem.W.findIn K (.ref cR) "__setattr__" = some (some (.builtin "object.__setattr__")))
    (p1lF : PySem.W.plainGet K cF Str.empty = true)
    (p2lF : PySem.W.hasDictIn K cF = true)
    (p3lF : PySem.W.plainOver K cF = true)
    (p4lF : PySem.W.findIn K (.ref cF) "__setattr__" = some (some (.builtin "object.__setattr__")))
    (unR1 : PySem.W.findIn K (.ref cR) "stones" = some none)
    (unF1 : PySem.W.findIn K (.ref cF) "pushes" = some none)
    (unF2 : PySem.W.findIn K (.ref cF) "stones" = some none)
    (qA : PySem.W.isClsIn K cA = true)
    (tA : PySem.W.typeIn K (.ref cA) = some (.type "type"))
    (rRA : PySem.W.mroIn K cR (.ref cA) = some true)
    (qC : PySem.W.isClsIn K cC = true)
    (tC : PySem.W.typeIn K (.ref cC) = some (.type "type"))
    (rRC : PySem.W.mroIn K cR (.ref cC) = some false)
    (qS : PySem.W.isClsIn K cS = true)
    (tS : PySem.W.typeIn K (.ref cS) = some (.type "type"))
    (rRS : PySem.W.mroIn K cR (.ref cS) = some false)
    (qF : PySem.W.isClsIn K cF = true)
    (tF : PySem.W.typeIn K (.ref cF) = some (.type "type"))
    (rRF : PySem.W.mroIn K cR (.ref cF) = some false)
    (qR : PySem.W.isClsIn K cR = true)
    (tR : PySem.W.typeIn K (.ref cR) = some (.type "type"))
    (rRR : PySem.W.mroIn K cR (.ref cR) = some true)
    (qH : PySem.W.isClsIn K cH = true)
    (tH : PySem.W.typeIn K (.ref cH) = some (.type "type"))
    (rRH : PySem.W.mroIn K cR (.ref cH) = some false)
    (rFA : PySem.W.mroIn K cF (.ref cA) = some true)
    (rFC : PySem.W.mroIn K cF (.ref cC) = some false)
    (rFS : PySem.W.mroIn K cF (.ref cS) = some false)
    (rFF : PySem.W.mroIn K cF (.ref cF) = some true)
    (rFR : PySem.W.mroIn K cF (.ref cR) = some false)
    (rFH : PySem.W.mroIn K cF (.ref cH) = some false)
    (uoR : PySem.W.findIn K (.ref cR) "__class__" = some (some (.builtin "object.__class__")))
    (umR : PySem.W.mroIn K cR (.type "object") = some true)
    (uoF : PySem.W.findIn K (.ref cF) "__class__" = some (some (.builtin "object.__class__")))
    (umF : PySem.W.mroIn K cF (.type "object") = some true)
    (uhn : PySem.W.specialIn K (.builtin "object.__class__") "__get__" = some (some (.builtin "getset_descriptor.__get__")))
    (uht : PySem.W.takesIn K (.builtin "object.__class__") = some true)
    (vF : PySem.W.makesIn K cF = true)
    (wF : PySem.W.keepIn K (.ref cF) = true)
    (vR : PySem.W.makesIn K cR = true)
    (wR : PySem.W.keepIn K (.ref cR) = true)
    : ∃ fd : FuncData, (∀ (s : Shared) (v : Value), BindsTo s fd ⟨[v], []⟩ [("_law_script", v)]) ∧ ∀ base : Heap, K.In base → base.Ns mainGlobals mg → FnOk l.prog w K mg base CX0 10 fa fd ["_law_script"] (spLaw K) := by
  have e := hfa.symm.trans (PySem.W.mg_of X G a24)
  cases e
  have B : Blt mg := ⟨PySem.W.mg_none_of X G z0, PySem.W.mg_none_of X G z1, PySem.W.mg_none_of X G z2, PySem.W.mg_none_of X G z3, PySem.W.mg_none_of X G z4, PySem.W.mg_none_of X G z5, PySem.W.mg_none_of X G z6, PySem.W.mg_none_of X G z7, PySem.W.mg_none_of X G z8, PySem.W.mg_none_of X G z9, PySem.W.mg_none_of X G z10, PySem.W.mg_none_of X G z11, PySem.W.mg_none_of X G z12, PySem.W.mg_none_of X G z13, PySem.W.mg_none_of X G z14, PySem.W.mg_none_of X G z15, PySem.W.mg_none_of X G z16, PySem.W.mg_none_of X G z17, PySem.W.mg_none_of X G z18⟩
  have C : Cst mg tk0 tk1 := ⟨PySem.W.mg_of X G e0, PySem.W.mg_of X G e1⟩
  have T : Kc K mg cA cC cS cF cR cH := ⟨PySem.W.mg_of X G ugA, PySem.W.mg_of X G ugC, PySem.W.mg_of X G ugS, PySem.W.mg_of X G ugF, PySem.W.mg_of X G ugR, PySem.W.mg_of X G ugH, ⟨p1lR, p2lR, p3lR, p4lR⟩, ⟨p1lF, p2lF, p3lF, p4lF⟩, unR1, unF1, unF2, kit_of qA tA rRA rRR, kit_of qC tC rRC rRR, kit_of qS tS rRS rRR, kit_of qF tF rRF rRR, kit_of qR tR rRR rRR, kit_of qH tH rRH rRR, kit_of qA tA rFA rFF, kit_of qC tC rFC rFF, kit_of qS tS rFS rFF, kit_of qF tF rFF rFF, kit_of qR tR rFR rFF, kit_of qH tH rFH rFF, uoR, umR, uoF, umF, uhn, uht⟩
  have F1 := fun_mk (st := sRow) l1 c1 k1
  have F2 := fun_mk (st := sNums) l2 c2 k2
  have F3 := fun_mk (st := sPair) l3 c3 k3
  have F4 := fun_mk (st := sNum) l4 c4 k4
  have F5 := fun_mk (st := sStone) l5 c5 k5
  have F6 := fun_mk (st := sChkRow) l6 c6 k6
  have F7 := fun_mk (st := sFirst) l7 c7 k7
  have F8 := fun_mk (st := s_unknocked) l8 c8 k8
  have F9 := fun_mk (st := s_Rights_init) l9 c9 k9
  have F10 := fun_mk (st := s_rights) l10 c10 k10
  have F11 := fun_mk (st := s_law_felled) l11 c11 k11
  have F12 := fun_mk (st := s_law_rights) l12 c12 k12
  have F13 := fun_mk (st := s_every_push) l13 c13 k13
  have F14 := fun_mk (st := sMirr) l14 c14 k14
  have F15 := fun_mk (st := s_reach) l15 c15 k15
  have F16 := fun_mk (st := s_right_ends) l16 c16 k16
  have F17 := fun_mk (st := s_left_ends) l17 c17 k17
  have F18 := fun_mk (st := s_spans) l18 c18 k18
  have F19 := fun_mk (st := s_widest) l19 c19 k19
  have F20 := fun_mk (st := s_Fewest_init) l20 c20 k20
  have F21 := fun_mk (st := s_fewest) l21 c21 k21
  have F22 := fun_mk (st := s_Rights_shows) l22 c22 k22
  have F23 := fun_mk (st := sRight) l23 c23 k23
  have F24 := fun_mk (st := sLaw) l24 c24 k24
  have b1 := F1.binds (ps := ["_law_script"]) fun _ _ _ _ _ _ us hl => match us, hl with | [_], _ => rfl
  have b2 := F2.binds (ps := ["_law_found"]) fun _ _ _ _ _ _ us hl => match us, hl with | [_], _ => rfl
  have b3 := F3.binds (ps := ["value"]) fun _ _ _ _ _ _ us hl => match us, hl with | [_], _ => rfl
  have b4 := F4.binds (ps := ["value"]) fun _ _ _ _ _ _ us hl => match us, hl with | [_], _ => rfl
  have b5 := F5.binds (ps := ["value"]) fun _ _ _ _ _ _ us hl => match us, hl with | [_], _ => rfl
  have b6 := F6.binds (ps := ["row"]) fun _ _ _ _ _ _ us hl => match us, hl with | [_], _ => rfl
  have b7 := F7.binds (ps := ["row", "stone"]) fun _ _ _ _ _ _ us hl => match us, hl with | [_, _], _ => rfl
  have b8 := F8.binds (ps := ["row"]) fun _ _ _ _ _ _ us hl => match us, hl with | [_], _ => rfl
  have b9 := F9.binds (ps := ["self", "stones"]) fun _ _ _ _ _ _ us hl => match us, hl with | [_, _], _ => rfl
  have b10 := F10.binds (ps := ["row"]) fun _ _ _ _ _ _ us hl => match us, hl with | [_], _ => rfl
  have b11 := F11.binds (ps := ["_law_row_here", "_law_stone", "_law_side"]) fun _ _ _ _ _ _ us hl => match us, hl with | [_, _, _], _ => rfl
  have b12 := F12.binds (ps := ["_law_row_here", "_law_stones"]) fun _ _ _ _ _ _ us hl => match us, hl with | [_, _], _ => rfl
  have b13 := F13.binds (ps := ["row"]) fun _ _ _ _ _ _ us hl => match us, hl with | [_], _ => rfl
  have b14 := F14.binds (ps := ["row"]) fun _ _ _ _ _ _ us hl => match us, hl with | [_], _ => rfl
  have b15 := F15.binds (ps := ["row", "stone", "side"]) fun _ _ _ _ _ _ us hl => match us, hl with | [_, _, _], _ => rfl
  have b16 := F16.binds (ps := ["row"]) fun _ _ _ _ _ _ us hl => match us, hl with | [_], _ => rfl
  have b17 := F17.binds (ps := ["row"]) fun _ _ _ _ _ _ us hl => match us, hl with | [_], _ => rfl
  have b18 := F18.binds (ps := ["row", "pushes"]) fun _ _ _ _ _ _ us hl => match us, hl with | [_, _], _ => rfl
  have b19 := F19.binds (ps := ["row"]) fun _ _ _ _ _ _ us hl => match us, hl with | [_], _ => rfl
  have b20 := F20.binds (ps := ["self", "pushes", "stones"]) fun _ _ _ _ _ _ us hl => match us, hl with | [_, _, _], _ => rfl
  have b21 := F21.binds (ps := ["row"]) fun _ _ _ _ _ _ us hl => match us, hl with | [_], _ => rfl
  have b22 := F22.binds (ps := ["self", "row"]) fun _ _ _ _ _ _ us hl => match us, hl with | [_, _], _ => rfl
  have b23 := F23.binds (ps := ["_law_row_here", "_law_beside"]) fun _ _ _ _ _ _ us hl => match us, hl with | [_, _], _ => rfl
  refine ⟨PySem.W.fnOf "law" "law" (defArgs sLaw) (defBody sLaw) (defScope sLaw) .none kV24 dc24 pm24 an24 cd24 ct24, fun s v => .of_eq rfl, fun base _ _ => ?_⟩
  have d_law_row : Dfn l.prog w K mg base "_law_row" 1 ["_law_script"] (spRow K) := ⟨f1, _, PySem.W.mg_of X G a1, k1, b1, ok_row F1 B⟩
  have d_law_numbers : Dfn l.prog w K mg base "_law_numbers" 1 ["_law_found"] (spNums) := ⟨f2, _, PySem.W.mg_of X G a2, k2, b2, ok_nums F2 B⟩
  have d_is_pair : Dfn l.prog w K mg base "is_pair" 1 ["value"] (spPair K) := ⟨f3, _, PySem.W.mg_of X G a3, k3, b3, ok_pair F3 B⟩
  have d_is_number : Dfn l.prog w K mg base "is_number" 1 ["value"] (spNum K) := ⟨f4, _, PySem.W.mg_of X G a4, k4, b4, ok_num F4 B⟩
  have d_is_stone : Dfn l.prog w K mg base "is_stone" 2 ["value"] (spStone) := ⟨f5, _, PySem.W.mg_of X G a5, k5, b5, ok_stone F5 B d_is_pair d_is_number⟩
  have d_check_row : Dfn l.prog w K mg base "check_row" 3 ["row"] (spChkRow) := ⟨f6, _, PySem.W.mg_of X G a6, k6, b6, ok_chkRow F6 B d_is_stone⟩
  have d_first_standing : Dfn l.prog w K mg base "first_standing" 1 ["row", "stone"] (spFirst) := ⟨f7, _, PySem.W.mg_of X G a7, k7, b7, ok_first F7 B⟩
  have d_unknocked : Dfn l.prog w K mg base "unknocked" 2 ["row"] (spUnk) := ⟨f8, _, PySem.W.mg_of X G a8, k8, b8, ok_unk F8 B d_first_standing⟩
  have c_Rights : Mke l.prog w K mg base "Rights" cR 1 ["self", "stones"] (spRInit cR) := ⟨f9, _, ⟨vR, a9, i9, wR⟩, PySem.W.mg_of X G ugR, b9, ok_RInit F9 B T⟩
  have d_rights : Dfn l.prog w K mg base "rights" 4 ["row"] (spRights cR) := ⟨f10, _, PySem.W.mg_of X G a10, k10, b10, ok_rights F10 d_check_row d_unknocked c_Rights⟩
  have d_law_felled : Dfn l.prog w K mg base "_law_felled" 1 ["_law_row_here", "_law_stone", "_law_side"] (spLFelled) := ⟨f11, _, PySem.W.mg_of X G a11, k11, b11, ok_LFelled F11 B⟩
  have d_law_rights : Dfn l.prog w K mg base "_law_rights" 2 ["_law_row_here", "_law_stones"] (spLRights K) := ⟨f12, _, PySem.W.mg_of X G a12, k12, b12, ok_LRights F12 B d_law_felled⟩
  have d_every_push : Dfn l.prog w K mg base "every_push" 1 ["row"] (spEvery) := ⟨f13, _, PySem.W.mg_of X G a13, k13, b13, ok_every F13 B C⟩
  have d_mirrored : Dfn l.prog w K mg base "mirrored" 4 ["row"] (spMirr) := ⟨f14, _, PySem.W.mg_of X G a14, k14, b14, ok_mirr F14 B d_check_row⟩
  have d_reach : Dfn l.prog w K mg base "reach" 1 ["row", "stone", "side"] (spReach) := ⟨f15, _, PySem.W.mg_of X G a15, k15, b15, ok_reach F15 ⟩
  have d_right_ends : Dfn l.prog w K mg base "right_ends" 2 ["row"] (spREnds) := ⟨f16, _, PySem.W.mg_of X G a16, k16, b16, ok_rends F16 B C d_reach⟩
  have d_left_ends : Dfn l.prog w K mg base "left_ends" 5 ["row"] (spLEnds) := ⟨f17, _, PySem.W.mg_of X G a17, k17, b17, ok_lends F17 B d_mirrored d_right_ends⟩
  have d_spans : Dfn l.prog w K mg base "spans" 6 ["row", "pushes"] (spSpans) := ⟨f18, _, PySem.W.mg_of X G a18, k18, b18, ok_spans F18 C d_left_ends d_right_ends⟩
  have d_widest : Dfn l.prog w K mg base "widest" 7 ["row"] (spWide) := ⟨f19, _, PySem.W.mg_of X G a19, k19, b19, ok_wide F19 B C d_every_push d_spans⟩
  have c_Fewest : Mke l.prog w K mg base "Fewest" cF 1 ["self", "pushes", "stones"] (spFInit cF) := ⟨f20, _, ⟨vF, a20, i20, wF⟩, PySem.W.mg_of X G ugF, b20, ok_FInit F20 B T⟩
  have d_fewest : Dfn l.prog w K mg base "fewest" 8 ["row"] (spFew cF) := ⟨f21, _, PySem.W.mg_of X G a21, k21, b21, ok_few F21 B d_check_row d_widest c_Fewest⟩
  have m_Rights_shows : Mth l.prog w K mg base cR "shows" 3 ["self", "row"] (spRShows cR) := ⟨f22, _, T.lR, ⟨a22, i22, k22⟩, b22, ok_RShows F22 B T d_unknocked⟩
  have d_law_right : Dfn l.prog w K mg base "_law_right" 9 ["_law_row_here", "_law_beside"] (spRight4) := ⟨f23, _, PySem.W.mg_of X G a23, k23, b23, ok_right4 F23 B T d_law_numbers d_rights d_law_rights d_fewest c_Rights m_Rights_shows⟩
  exact ok_law F24 B d_law_row d_law_right
theorem walk {l : PySem.W.OpenLaw} {q : Program} {loose : List Str} {XP : (Str → Option Value) → Heap → Prop} {YP : World → Heap → Prop} {d : DefRec} {K : Params → PySem.W.Frag} (hn : l.most = some 63) (hdf : d.params.defaults = [])
    (hY : ∀ (w : World) (h : Heap), YP w h → (K w.params).In h)
    (F : ∀ (w : World) (mg : Str → Option Value) (fa : Addr) (h : Heap), (K w.params).In h → h.Ns mainGlobals mg → mg d.name = some (.ref fa) →
      ∃ fd : FuncData, (∀ (s : Shared) (u : Value), BindsTo s fd ⟨[u], []⟩ [("_law_script", u)]) ∧ ∀ base : Heap, (K w.params).In base → base.Ns mainGlobals mg → FnOk l.prog w (K w.params) mg base CX0 10 fa fd ["_law_script"] (spLaw (K w.params))) :
    PySem.W.WalkO q loose XP YP l.row.toRowW d [] (fun f vs => PySem.call f vs) :=
  L2.walk_of (n := 63) (k := 10) (x := "_law_script") (CX := fun _ => CX0) (sp := fun w => spLaw (K w.params)) hn (by decide) hdf ⟨rfl, by decide, by decide⟩ hY F (fun _ _ a ns hl _ hS => ⟨a, ns, rfl, hS, hl, fun _ => rfl⟩) fun _ _ _ _ _ z => z
end Fk
theorem PySem.W.Fast.tw4420400765531788098 : True := trivial
theorem PySem.W.Fast.tw2465770759032725620 : True := trivial
theorem PySem.W.Fast.tw1774616606655247550 : True := trivial
theorem PySem.W.Fast.tw60609387471019933 : True := trivial
theorem PySem.W.Fast.tw11145471819887262876 : True := trivial
theorem PySem.W.Fast.tw13578752797026349325 : True := trivial
theorem PySem.W.Fast.tw988783310661363779 : True := trivial
theorem PySem.W.Fast.tw15247430743187476707 : True := trivial
theorem PySem.W.Fast.tw15991584119329021410 : True := trivial
theorem PySem.W.Fast.tw5351874639390741803 : True := trivial
theorem PySem.W.Fast.tw12305584798444516275 : True := trivial
theorem PySem.W.Fast.tw10037135864278610107 : True := trivial
theorem PySem.W.Fast.tw13228304213157984700 : True := trivial
theorem PySem.W.Fast.tw14222450427345368361 : True := trivial
theorem PySem.W.Fast.tw11921978307566665934 : True := trivial
theorem PySem.W.Fast.tw13494897099692634805 : True := trivial
theorem PySem.W.Fast.tw16772921383303771810 : True := trivial
theorem PySem.W.Fast.tw4475154276346402103 : True := trivial
theorem PySem.W.Fast.tw4590013429756537981 : True := trivial
theorem PySem.W.Fast.tw3366376292068568607 : True := trivial
theorem PySem.W.Fast.tw4506439461025337722 : True := trivial
theorem PySem.W.Fast.tw9301084305292862764 : True := trivial
theorem PySem.W.Fast.tw7067687303950675455 : True := trivial
theorem PySem.W.Fast.tw1702558987797442245 : True := trivial
theorem PySem.W.Fast.tw15292117860926827312 : True := trivial
theorem PySem.W.Fast.tw8550318646373476115 : True := trivial
theorem PySem.W.Fast.tw17667652535823228775 : True := trivial
theorem PySem.W.Fast.tw3164728497804507314 : True := trivial
theorem PySem.W.Fast.tw14077047895552456093 : True := trivial
theorem PySem.W.Fast.tw5410445578227119150 : True := trivial
theorem PySem.W.Fast.tw1229856032718025716 : True := trivial
theorem PySem.W.Fast.tw16212329599752655556 : True := trivial
theorem PySem.W.Fast.tw9561136049185716935 : True := trivial
theorem PySem.W.Fast.tw4893637958344781256 : True := trivial
theorem PySem.W.Fast.tw423016445921332683 : True := trivial
theorem PySem.W.Fast.tw8142930035280774010 : True := trivial
theorem PySem.W.Fast.tw11830575615905643089 : True := trivial
theorem PySem.W.Fast.tw12644205986981037190 : True := trivial
theorem PySem.W.Fast.tw6289114708579345598 : True := trivial
theorem PySem.W.Fast.tw1555216233809878129 : True := trivial
theorem PySem.W.Fast.tw15935085924367944507 : True := trivial
theorem PySem.W.Fast.tw3176883221241681826 : True := trivial
theorem PySem.W.Fast.tw3628833184709314756 : True := trivial
theorem PySem.W.Fast.tw11585921096820506586 : True := trivial
theorem PySem.W.Fast.tw15684374555928855586 : True := trivial
theorem PySem.W.Fast.tw8101983479914965998 : True := trivial
theorem PySem.W.Fast.tw2522137403029133712 : True := trivial
theorem PySem.W.Fast.tw6181101642058568388 : True := trivial
theorem PySem.W.Fast.tw2732920504028674789 : True := trivial
theorem PySem.W.Fast.tw38229284038565117 : True := trivial
theorem PySem.W.Fast.tw3560766185431749522 : True := trivial
theorem PySem.W.Fast.tw1284026625475579213 : True := trivial
theorem PySem.W.Fast.tw13216480618468947353 : True := trivial
theorem PySem.W.Fast.tw1620752233445199672 : True := trivial
theorem PySem.W.Fast.tw16458106273817326329 : True := trivial
theorem PySem.W.Fast.tw1368306356208800253 : True := trivial
theorem PySem.W.Fast.tw15025702289465718725 : True := trivial
theorem PySem.W.Fast.tw9778656478797972803 : True := trivial
theorem PySem.W.Fast.tw3573374721859773550 : True := trivial
theorem PySem.W.Fast.tw17414176121533360296 : True := trivial
theorem PySem.W.Fast.tw12688789300241319720 : True := trivial
theorem PySem.W.Fast.tw2860589340127212125 : True := trivial
theorem PySem.W.Fast.tw6979145815957700615 : True := trivial
theorem PySem.W.Fast.tw2331150039185858412 : True := trivial
theorem PySem.W.Fast.tw16073926522438572368 : True := trivial
theorem PySem.W.Fast.tw7655407483880638301 : True := trivial
theorem PySem.W.Fast.tw2707396851532953471 : True := trivial
theorem PySem.W.Fast.tw5234781893872154307 : True := trivial
theorem PySem.W.Fast.tw11862546391865344710 : True := trivial
theorem PySem.W.Fast.tw14755600675660663365 : True := trivial
theorem PySem.W.Fast.tw4840815551636748473 : True := trivial
theorem PySem.W.Fast.tw5950420943332093619 : True := trivial
theorem PySem.W.Fast.tw10595880034093855190 : True := trivial
theorem PySem.W.Fast.tw1794273392513029155 : True := trivial
theorem PySem.W.Fast.tw2943942015425178825 : True := trivial
theorem PySem.W.Fast.tw10417677669140983854 : True := trivial
theorem PySem.W.Fast.tw11318298836151890257 : True := trivial
theorem PySem.W.Fast.tw11770946015121846222 : True := trivial
theorem PySem.W.Fast.tw5823295672197871590 : True := trivial
theorem PySem.W.Fast.tw7883706841063510169 : True := trivial
theorem PySem.W.Fast.tw5050344328034849349 : True := trivial
theorem PySem.W.Fast.tw17897113269513868065 : True := trivial
theorem PySem.W.Fast.tw2948380823097113145 : True := trivial
theorem PySem.W.Fast.tw3725878292328430742 : True := trivial
theorem PySem.W.Fast.tw14827872828677607746 : True := trivial
theorem PySem.W.Fast.tw2112294503039665549 : True := trivial
theorem PySem.W.Fast.tw15034132973599845193 : True := trivial
theorem PySem.W.Fast.tw14344358291616198933 : True := trivial
theorem PySem.W.Fast.tw6916422723529932812 : True := trivial
theorem PySem.W.Fast.tw6953352346956193756 : True := trivial
theorem PySem.W.Fast.tw3074348905793290380 : True := trivial
theorem PySem.W.Fast.tw10349772176903961812 : True := trivial
theorem PySem.W.Fast.tw4707099181898925220 : True := trivial
theorem PySem.W.Fast.tw9634626229430949932 : True := trivial
theorem PySem.W.Fast.tw15792513048776861090 : True := trivial
theorem PySem.W.Fast.tw15079580316167116776 : True := trivial
theorem PySem.W.Fast.tw12309426174760719535 : True := trivial
theorem PySem.W.Fast.tw15412380871014714554 : True := trivial
theorem PySem.W.Fast.tw17036259380338512395 : True := trivial
theorem PySem.W.Fast.tw2346880661405593409 : True := trivial
theorem PySem.W.Fast.tw8605529840832828871 : True := trivial
theorem PySem.W.Fast.tw1140322397881752869 : True := trivial
theorem PySem.W.Fast.tw9963480002433582132 : True := trivial
theorem PySem.W.Fast.tw9407239183109064199 : True := trivial
theorem PySem.W.Fast.tw1466840013503799049 : True := trivial
theorem PySem.W.Fast.tw5203783962273528139 : True := trivial
theorem PySem.W.Fast.tw852370820963767136 : True := trivial
theorem PySem.W.Fast.tw15270930984148074453 : True := trivial
theorem PySem.W.Fast.tw9066023962937380284 : True := trivial
theorem PySem.W.Fast.tw3339309039379375581 : True := trivial
theorem PySem.W.Fast.tw16505919693615614709 : True := trivial
theorem PySem.W.Fast.tw10178669901201443945 : True := trivial
theorem PySem.W.Fast.tw4023445179898737823 : True := trivial
theorem PySem.W.Fast.tw14371183271876054437 : True := trivial
theorem PySem.W.Fast.tw12561892679421346193 : True := trivial
theorem PySem.W.Fast.tw4657592038041792090 : True := trivial
theorem PySem.W.Fast.tw13068861332312592294 : True := trivial
theorem PySem.W.Fast.tw16312555358411423953 : True := trivial
theorem PySem.W.Fast.tw1799004374762564470 : True := trivial
theorem PySem.W.Fast.tw16089650484211033837 : True := trivial
theorem PySem.W.Fast.tw12077407839006971059 : True := trivial
theorem PySem.W.Fast.tw3060884040947110093 : True := trivial
theorem PySem.W.Fast.tw9999212295068054225 : True := trivial
theorem PySem.W.Fast.tw14664605861787825255 : True := trivial
theorem PySem.W.Fast.tw17218896407356645001 : True := trivial
theorem PySem.W.Fast.tw14229590138925311408 : True := trivial
theorem PySem.W.Fast.tw2879170307669959368 : True := trivial
theorem PySem.W.Fast.tw6618292330726689993 : True := trivial
theorem PySem.W.Fast.tw17825736648314186983 : True := trivial
theorem PySem.W.Fast.tw4093371888486260973 : True := trivial
theorem PySem.W.Fast.tw4642662990217930770 : True := trivial
theorem PySem.W.Fast.tw822067460216022442 : True := trivial
theorem PySem.W.Fast.tw13344462831797908188 : True := trivial
theorem PySem.W.Fast.tw1083498525464410426 : True := trivial
theorem PySem.W.Fast.tw12094009657868562214 : True := trivial
theorem PySem.W.Fast.tw17279652607992485000 : True := trivial
theorem PySem.W.Fast.tw7234133131126787566 : True := trivial
theorem PySem.W.Fast.tw6074300993338127939 : True := trivial
theorem PySem.W.Fast.tw2855199132098118561 : True := trivial
theorem PySem.W.Fast.tw9493083347471833731 : True := trivial
theorem PySem.W.Fast.tw14483107213738032532 : True := trivial
theorem PySem.W.Fast.tw2479057645949078498 : True := trivial
theorem PySem.W.Fast.tw10407846412835417592 : True := trivial
theorem PySem.W.Fast.tw6736540996005511591 : True := trivial
theorem PySem.W.Fast.tw4788915807350344925 : True := trivial
theorem PySem.W.Fast.tw3454037747352366149 : True := trivial
theorem PySem.W.Fast.tw42687918298490645 : True := trivial
theorem PySem.W.Fast.tw13997729624878877468 : True := trivial
theorem PySem.W.Fast.tw14021681972154690620 : True := trivial
theorem PySem.W.Fast.tw16534277147058567975 : True := trivial
theorem PySem.W.Fast.tw844032317169976335 : True := trivial
theorem PySem.W.Fast.tw7594932323156684763 : True := trivial
theorem PySem.W.Fast.tw16294502570785753831 : True := trivial
theorem PySem.W.Fast.tw13802553432998481599 : True := trivial
theorem PySem.W.Fast.tw8592003919051472037 : True := trivial
theorem PySem.W.Fast.tw6719972752646765375 : True := trivial
theorem PySem.W.Fast.tw1079609167211740459 : True := trivial
theorem PySem.W.Fast.tw1392604566538818835 : True := trivial
theorem PySem.W.Fast.tw5221948491499266716 : True := trivial
theorem PySem.W.Fast.tw3116068226003929017 : True := trivial
theorem PySem.W.Fast.tw16693974135763367781 : True := trivial
theorem PySem.W.Fast.tw2073093814112319623 : True := trivial
theorem PySem.W.Fast.tw17461127612410581186 : True := trivial
theorem PySem.W.Fast.tw5569012201277499183 : True := trivial
theorem PySem.W.Fast.tw13158748357995370695 : True := trivial
theorem PySem.W.Fast.tw14749389824259968563 : True := trivial
theorem PySem.W.Fast.tw17669006444926116437 : True := trivial
theorem PySem.W.Fast.tw6007402407866371421 : True := trivial
theorem PySem.W.Fast.tw17270495686852748148 : True := trivial
theorem PySem.W.Fast.tw14557906794068958264 : True := trivial
theorem PySem.W.Fast.tw6773767272978463253 : True := trivial
theorem PySem.W.Fast.tw5858083790941101682 : True := trivial
theorem PySem.W.Fast.tw5684847645003427094 : True := trivial
theorem PySem.W.Fast.tw2928907088115478664 : True := trivial
theorem PySem.W.Fast.tw16654880266445667965 : True := trivial
theorem PySem.W.Fast.tw13567912830866256702 : True := trivial
theorem PySem.W.Fast.tw2974437215728110804 : True := trivial
theorem PySem.W.Fast.tw18309580504831648836 : True := trivial
theorem PySem.W.Fast.tw12251693965954168354 : True := trivial
theorem PySem.W.Fast.tw12831188119154134631 : True := trivial
theorem PySem.W.Fast.tw15376129343508573912 : True := trivial
theorem PySem.W.Fast.tw6652680324421780070 : True := trivial
theorem PySem.W.Fast.tw11162842624252131585 : True := trivial
theorem PySem.W.Fast.tw10474382542766835417 : True := trivial
theorem PySem.W.Fast.tw5804936980828550590 : True := trivial
theorem PySem.W.Fast.tw2335693432677812882 : True := trivial
theorem PySem.W.Fast.tw13808431318151508529 : True := trivial
theorem PySem.W.Fast.tw7851280263580413269 : True := trivial
theorem PySem.W.Fast.tw3290388619547841575 : True := trivial
theorem PySem.W.Fast.tw16174687632638384961 : True := trivial
theorem PySem.W.Fast.tw2375046672749036104 : True := trivial
theorem PySem.W.Fast.tw2441390692627017918 : True := trivial
theorem PySem.W.Fast.tw4864593015205003115 : True := trivial
theorem PySem.W.Fast.tw2046499637603862245 : True := trivial
theorem PySem.W.Fast.tw2356893239226757288 : True := trivial
theorem PySem.W.Fast.tw6338244423600542764 : True := trivial
theorem PySem.W.Fast.tw1464471516580333264 : True := trivial
theorem PySem.W.Fast.tw7075884740779734882 : True := trivial
theorem PySem.W.Fast.tw4774914570585658504 : True := trivial
theorem PySem.W.Fast.tw7493293316477030322 : True := trivial
theorem PySem.W.Fast.tw18359359987406271714 : True := trivial
theorem PySem.W.Fast.tw1716102740586998261 : True := trivial
theorem PySem.W.Fast.tw4068998955460832981 : True := trivial
theorem PySem.W.Fast.tw11713723939466514408 : True := trivial
theorem PySem.W.Fast.tw512990553126603634 : True := trivial
theorem PySem.W.Fast.tw9877244694140046138 : True := trivial
theorem PySem.W.Fast.tw4695613273354953826 : True := trivial
theorem PySem.W.Fast.tw10315403106462578793 : True := trivial
theorem PySem.W.Fast.tw12496421336801063043 : True := trivial
theorem PySem.W.Fast.tw15100026423557589974 : True := trivial
theorem PySem.W.Fast.tw1895421170511368814 : True := trivial
theorem PySem.W.Fast.tw11858487036730764860 : True := trivial
theorem PySem.W.Fast.tw16203970091020091894 : True := trivial
theorem PySem.W.Fast.tw16361585635872410781 : True := trivial
theorem PySem.W.Fast.tw6105346457334716035 : True := trivial
theorem PySem.W.Fast.tw15255463577472407667 : True := trivial
theorem PySem.W.Fast.tw12215923815594692686 : True := trivial
theorem PySem.W.Fast.tw16156954428697849954 : True := trivial
theorem PySem.W.Fast.tw11471648073182334878 : True := trivial
theorem PySem.W.Fast.tw17098244740332617300 : True := trivial
theorem PySem.W.Fast.tw8836261665929302647 : True := trivial
theorem PySem.W.Fast.tw9928654404134777778 : True := trivial
theorem PySem.W.Fast.tw18288019169239506564 : True := trivial
theorem PySem.W.Fast.tw16404611040212160718 : True := trivial
theorem PySem.W.Fast.tw8184699549503506253 : True := trivial
theorem PySem.W.Fast.tw12316864446918372516 : True := trivial
theorem PySem.W.Fast.tw5820047215775481722 : True := trivial
theorem PySem.W.Fast.tw16556361874230965714 : True := trivial
theorem PySem.W.Fast.tw1621413934720396200 : True := trivial
theorem PySem.W.Fast.tw5940371576246725986 : True := trivial
theorem PySem.W.Fast.tw12966633585252817452 : True := trivial
theorem PySem.W.Fast.tw18386174331437364392 : True := trivial
theorem PySem.W.Fast.tw744472005926636490 : True := trivial
theorem PySem.W.Fast.tw7580858184207186892 : True := trivial
theorem PySem.W.Fast.tw219268912377054705 : True := trivial
theorem PySem.W.Fast.tw6701951726962513217 : True := trivial
theorem PySem.W.Fast.tw8320681063517535810 : True := trivial
theorem PySem.W.Fast.tw5323527278553423855 : True := trivial
theorem PySem.W.Fast.tw15263910667174127285 : True := trivial
theorem PySem.W.Fast.tw329225146042532134 : True := trivial
theorem PySem.W.Fast.tw4839266000701256309 : True := trivial
theorem PySem.W.Fast.tw15082234190911807091 : True := trivial
theorem PySem.W.Fast.tw978972881367160616 : True := trivial
theorem PySem.W.Fast.tw16199879997939632488 : True := trivial
theorem PySem.W.Fast.tw17571915219401201172 : True := trivial
theorem PySem.W.Fast.tw16328717262136130079 : True := trivial
theorem PySem.W.Fast.tw2041492526402598119 : True := trivial
theorem PySem.W.Fast.tw10270146801626323689 : True := trivial
theorem PySem.W.Fast.tw15779175835834505377 : True := trivial
theorem PySem.W.Fast.tw2039378675833342061 : True := trivial
theorem PySem.W.Fast.tw7348390095850318006 : True := trivial
theorem PySem.W.Fast.tw11966374379014891773 : True := trivial
theorem PySem.W.Fast.tw15293516626933719966 : True := trivial
theorem PySem.W.Fast.tw13857585564555465512 : True := trivial
theorem PySem.W.Fast.tw5449696624640069652 : True := trivial
theorem PySem.W.Fast.tw14624720408971376284 : True := trivial
theorem PySem.W.Fast.tw5647609493610573796 : True := trivial
theorem PySem.W.Fast.tw14795516278776056899 : True := trivial
theorem PySem.W.Fast.tw15951124128519211712 : True := trivial
theorem PySem.W.Fast.tw11919945393190280284 : True := trivial
theorem PySem.W.Fast.tw139993844500735937 : True := trivial
theorem PySem.W.Fast.tw9267643212872247696 : True := trivial
theorem PySem.W.Fast.tw17194438640968061060 : True := trivial
theorem PySem.W.Fast.tw15435963689416065117 : True := trivial
theorem PySem.W.Fast.tw1456365368170044033 : True := trivial
theorem PySem.W.Fast.tw18423729165629676894 : True := trivial
theorem PySem.W.Fast.tw6042386883312946733 : True := trivial
theorem PySem.W.Fast.tw14253162003601366628 : True := trivial
theorem PySem.W.Fast.tw12442610421784662461 : True := trivial
theorem PySem.W.Fast.tw12948403557912248612 : True := trivial
theorem PySem.W.Fast.tw17245360358368810163 : True := trivial
theorem PySem.W.Fast.tw2925318744917632527 : True := trivial
theorem PySem.W.Fast.tw15113558503943189777 : True := trivial
theorem PySem.W.Fast.tw9972135934673912521 : True := trivial
theorem PySem.W.Fast.tw13263521989766616945 : True := trivial
theorem PySem.W.Fast.tw1189821700011656208 : True := trivial
theorem PySem.W.Fast.tw9988107583967651463 : True := trivial
theorem PySem.W.Fast.tw15815339268151410581 : True := trivial
theorem PySem.W.Fast.tw17674118759325380294 : True := trivial
theorem PySem.W.Fast.tw15856762248589428555 : True := trivial
theorem PySem.W.Fast.tw17822616213734977979 : True := trivial
theorem PySem.W.Fast.tw10296867179115340977 : True := trivial
theorem PySem.W.Fast.tw11014763996580720599 : True := trivial
theorem PySem.W.Fast.tw12871082887462590669 : True := trivial
theorem PySem.W.Fast.tw14076108910511228119 : True := trivial
theorem PySem.W.Fast.tw17217770042617931107 : True := trivial
theorem PySem.W.Fast.tw6177134797619659243 : True := trivial
theorem PySem.W.Fast.tw9967827467353686273 : True := trivial
theorem PySem.W.Fast.tw13547553489577859077 : True := trivial
theorem PySem.W.Fast.tw374003047919910711 : True := trivial
theorem PySem.W.Fast.tw2860350683828151842 : True := trivial
theorem PySem.W.Fast.tw5572031088843894201 : True := trivial
theorem PySem.W.Fast.tw9960492125089955809 : True := trivial
theorem PySem.W.Fast.tw6192632956908584924 : True := trivial
theorem PySem.W.Fast.tw2923540099848332650 : True := trivial
theorem PySem.W.Fast.tw15245129074842182712 : True := trivial
theorem PySem.W.Fast.tw16459631664125027722 : True := trivial
theorem PySem.W.Fast.tw553458045279144270 : True := trivial
theorem PySem.W.Fast.tw6481544707903346060 : True := trivial
theorem PySem.W.Fast.tw14122862098848156811 : True := trivial
theorem PySem.W.Fast.tw18359868204510412532 : True := trivial
theorem PySem.W.Fast.tw16604438004462739446 : True := trivial
theorem PySem.W.Fast.tw12256097319688547342 : True := trivial
theorem PySem.W.Fast.tw8547323627364695124 : True := trivial
theorem PySem.W.Fast.tw12582015911587217592 : True := trivial
theorem PySem.W.Fast.tw6409787378016907589 : True := trivial
theorem PySem.W.Fast.tw7114140112640968482 : True := trivial
theorem PySem.W.Fast.tw10025478387789164613 : True := trivial
theorem PySem.W.Fast.tw11436422462638466134 : True := trivial
theorem PySem.W.Fast.tw11560668313358065343 : True := trivial
theorem PySem.W.Fast.tw14787129635970902908 : True := trivial
theorem PySem.W.Fast.tw15624949497459040364 : True := trivial
theorem PySem.W.Fast.tw2940846274495850258 : True := trivial
theorem PySem.W.Fast.tw7894744540098816542 : True := trivial
theorem PySem.W.Fast.tw6774258184015897677 : True := trivial
theorem PySem.W.Fast.tw13351814642209701966 : True := trivial
theorem PySem.W.Fast.tw8503216248530684065 : True := trivial
theorem PySem.W.Fast.tw6091393865217365308 : True := trivial
theorem PySem.W.Fast.tw15133994736147277823 : True := trivial
theorem PySem.W.Fast.tw10650834086868149087 : True := trivial
theorem PySem.W.Fast.tw12405328847587148540 : True := trivial
theorem PySem.W.Fast.tw17957820659589115186 : True := trivial
theorem PySem.W.Fast.tw10627348598855158946 : True := trivial
theorem PySem.W.Fast.tw8965327670019513100 : True := trivial
theorem PySem.W.Fast.tw10672873680421689562 : True := trivial
theorem PySem.W.Fast.tw10241052459760582633 : True := trivial
theorem PySem.W.Fast.tw9629394062620049191 : True := trivial
theorem PySem.W.Fast.tw8327306656087070797 : True := trivial
theorem PySem.W.Fast.tw8061468358237418450 : True := trivial
theorem PySem.W.Fast.tw15452668901683857837 : True := trivial
theorem PySem.W.Fast.tw11023282864922396886 : True := trivial
theorem PySem.W.Fast.tw15100741218180772070 : True := trivial
theorem PySem.W.Fast.tw15201433787666582199 : True := trivial
theorem PySem.W.Fast.tw5657356460854907690 : True := trivial
theorem PySem.W.Fast.tw4944375647957987179 : True := trivial
theorem PySem.W.Fast.tw5161737314505281733 : True := trivial
theorem PySem.W.Fast.tw13308158633706262855 : True := trivial
theorem PySem.W.Fast.tw5325312457614257072 : True := trivial
theorem PySem.W.Fast.tw9681986701569029818 : True := trivial
theorem PySem.W.Fast.tw12625483082014573713 : True := trivial
open PySem PySem.W PyProof.Rows
set_option maxRecDepth 100000 in
set_option maxHeartbeats 0 in
theorem PySem.Challenge.cw_fallrow_k04_whole_rights_holds : PySem.Challenge.rw_fallrow_k04_whole_rights.Holds := by
  w_on; o_law; k_head; (case hw => w_witness2)
  k_fill
  refine Fk.walk (l := PySem.Challenge.rw_fallrow_k04_whole_rights) rfl rfl (fun w h Y => PySem.W.kIn_of Y) ?F
  case F =>
    intro w mg fa h KX G hmg
    refine' Fk.all_mk KX G hmg ?ugA ?ugC ?ugS ?ugF ?ugR ?ugH ?a1 ?l1 ?c1 ?k1 ?a2 ?l2 ?c2 ?k2 ?a3 ?l3 ?c3 ?k3 ?a4 ?l4 ?c4 ?k4 ?a5 ?l5 ?c5 ?k5 ?a6 ?l6 ?c6 ?k6 ?a7 ?l7 ?c7 ?k7 ?a8 ?l8 ?c8 ?k8 ?a9 ?i9 ?l9 ?c9 ?k9 ?a10 ?l10 ?c10 ?k10 ?a11 ?l11 ?c11 ?k11 ?a12 ?l12 ?c12 ?k12 ?a13 ?l13 ?c13 ?k13 ?a14 ?l14 ?c14 ?k14 ?a15 ?l15 ?c15 ?k15 ?a16 ?l16 ?c16 ?k16 ?a17 ?l17 ?c17 ?k17 ?a18 ?l18 ?c18 ?k18 ?a19 ?l19 ?c19 ?k19 ?a20 ?i20 ?l20 ?c20 ?k20 ?a21 ?l21 ?c21 ?k21 ?a22 ?i22 ?l22 ?c22 ?k22 ?a23 ?l23 ?c23 ?k23 ?a24 ?l24 ?c24 ?k24 ?e0 ?e1 ?z0 ?z1 ?z2 ?z3 ?z4 ?z5 ?z6 ?z7 ?z8 ?z9 ?z10 ?z11 ?z12 ?z13 ?z14 ?z15 ?z16 ?z17 ?z18 ?p1lR ?p2lR ?p3lR ?p4lR ?p1lF ?p2lF ?p3lF ?p4lF ?unR1 ?unF1 ?unF2 ?qA ?tA ?rRA ?qC ?tC ?rRC ?qS ?tS ?rRS ?qF ?tF ?rRF ?qR ?tR ?rRR ?qH ?tH ?rRH ?rFA ?rFC ?rFS ?rFF ?rFR ?rFH ?uoR ?umR ?uoF ?umF ?uhn ?uht ?vF ?wF ?vR ?wR
    (case ugA => k_is)
    (case ugC => k_is)
    (case ugS => k_is)
    (case ugF => k_is)
    (case ugR => k_is)
    (case ugH => k_is)
    (case a1 => k_is)
    (case l1 => k_is)
    (case c1 => k_is)
    (case k1 => k_is)
    (case a2 => k_is)
    (case l2 => k_is)
    (case c2 => k_is)
    (case k2 => k_is)
    (case a3 => k_is)
    (case l3 => k_is)
    (case c3 => k_is)
    (case k3 => k_is)
    (case a4 => k_is)
    (case l4 => k_is)
    (case c4 => k_is)
    (case k4 => k_is)
    (case a5 => k_is)
    (case l5 => k_is)
    (case c5 => k_is)
    (case k5 => k_is)
    (case a6 => k_is)
    (case l6 => k_is)
    (case c6 => k_is)
    (case k6 => k_is)
    (case a7 => k_is)
    (case l7 => k_is)
    (case c7 => k_is)
    (case k7 => k_is)
    (case a8 => k_is)
    (case l8 => k_is)
    (case c8 => k_is)
    (case k8 => k_is)
    (case a9 => k_is)
    (case i9 => k_is)
    (case l9 => k_is)
    (case c9 => k_is)
    (case k9 => k_is)
    (case a10 => k_is)
    (case l10 => k_is)
    (case c10 => k_is)
    (case k10 => k_is)
    (case a11 => k_is)
    (case l11 => k_is)
    (case c11 => k_is)
    (case k11 => k_is)
    (case a12 => k_is)
    (case l12 => k_is)
    (case c12 => k_is)
    (case k12 => k_is)
    (case a13 => k_is)
    (case l13 => k_is)
    (case c13 => k_is)
    (case k13 => k_is)
    (case a14 => k_is)
    (case l14 => k_is)
    (case c14 => k_is)
    (case k14 => k_is)
    (case a15 => k_is)
    (case l15 => k_is)
    (case c15 => k_is)
    (case k15 => k_is)
    (case a16 => k_is)
    (case l16 => k_is)
    (case c16 => k_is)
    (case k16 => k_is)
    (case a17 => k_is)
    (case l17 => k_is)
    (case c17 => k_is)
    (case k17 => k_is)
    (case a18 => k_is)
    (case l18 => k_is)
    (case c18 => k_is)
    (case k18 => k_is)
    (case a19 => k_is)
    (case l19 => k_is)
    (case c19 => k_is)
    (case k19 => k_is)
    (case a20 => k_is)
    (case i20 => k_is)
    (case l20 => k_is)
    (case c20 => k_is)
    (case k20 => k_is)
    (case a21 => k_is)
    (case l21 => k_is)
    (case c21 => k_is)
    (case k21 => k_is)
    (case a22 => k_is)
    (case i22 => k_is)
    (case l22 => k_is)
    (case c22 => k_is)
    (case k22 => k_is)
    (case a23 => k_is)
    (case l23 => k_is)
    (case c23 => k_is)
    (case k23 => k_is)
    (case a24 => k_is)
    (case l24 => k_is)
    (case c24 => k_is)
    (case k24 => k_is)
    (case e0 => k_is)
    (case e1 => k_is)
    (case z0 => k_is)
    (case z1 => k_is)
    (case z2 => k_is)
    (case z3 => k_is)
    (case z4 => k_is)
    (case z5 => k_is)
    (case z6 => k_is)
    (case z7 => k_is)
    (case z8 => k_is)
    (case z9 => k_is)
    (case z10 => k_is)
    (case z11 => k_is)
    (case z12 => k_is)
    (case z13 => k_is)
    (case z14 => k_is)
    (case z15 => k_is)
    (case z16 => k_is)
    (case z17 => k_is)
    (case z18 => k_is)
    (case p1lR => k_is)
    (case p2lR => k_is)
    (case p3lR => k_is)
    (case p4lR => k_is)
    (case p1lF => k_is)
    (case p2lF => k_is)
    (case p3lF => k_is)
    (case p4lF => k_is)
    (case unR1 => k_is)
    (case unF1 => k_is)
    (case unF2 => k_is)
    (case qA => k_is)
    (case tA => k_is)
    (case rRA => k_is)
    (case qC => k_is)
    (case tC => k_is)
    (case rRC => k_is)
    (case qS => k_is)
    (case tS => k_is)
    (case rRS => k_is)
    (case qF => k_is)
    (case tF => k_is)
    (case rRF => k_is)
    (case qR => k_is)
    (case tR => k_is)
    (case rRR => k_is)
    (case qH => k_is)
    (case tH => k_is)
    (case rRH => k_is)
    (case rFA => k_is)
    (case rFC => k_is)
    (case rFS => k_is)
    (case rFF => k_is)
    (case rFR => k_is)
    (case rFH => k_is)
    (case uoR => k_is)
    (case umR => k_is)
    (case uoF => k_is)
    (case umF => k_is)
    (case uhn => k_is)
    (case uht => k_is)
    (case vF => k_is)
    (case wF => k_is)
    (case vR => k_is)
    (case wR => k_is)
#print axioms PySem.Challenge.cw_fallrow_k04_whole_rights_holds

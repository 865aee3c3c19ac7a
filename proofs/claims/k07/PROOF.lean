import PyProof.Rows.All
import Wide.All
import OpenK.AllK
import Wide.FinOn
import Lean
import PyProof.EqAt
import PyProof.EqKinds
import PyProof.TupleCall
import PyProof.NeKinds
import KE.KRevIter
import PyProof.SetKind
import PyProof.DictStraight
import PyProof.FactsAll.set_1
import PyProof.CollectWalk
import PyProof.WalksMore
import PyProof.Rows.SetFrom
import PyProof.Rows.SortShell
import PyProof.ListRange
import PyProof.Rows.SortWalk
import PyProof.FactsAll.set_2
import KE.KRevSl
import KE.KDictSum
import PyProof.ZipIter
import PyProof.Rows.FactsT2
import KE.KSortTup
import PyProof.EnumMake
import PyProof.EnumFor
import PyProof.SetRoads
import KE.KTryMore
import PyProof.ExcBaseAll.ValueError
import PyProof.ExcAttrAll.ValueError
import PyProof.ExcArgsOwn
import PyProof.StrCalls2
import PyProof.StrCalls3
import PyProof.StrLawsChain
import PyProof.StrWalks
import PyProof.StrBlock2
import PyProof.StrBlockI
import PyProof.FString
import PyProof.FitsReplace
import KE.KIntText
import KE.IntTextLaws
import PyProof.StrLawsIdx
import PyProof.StrLawsIn
import PyProof.StrLawsAffix
import PyProof.Rows.StrJoinRep
import PySem.Challenge.RW_fallrow_k07_texts
set_option Elab.async false
set_option linter.all false
set_option maxRecDepth 100000
set_option maxHeartbeats 4000000
set_option genSizeOf false
set_option genInjectivity false
namespace L2
open PySem PySem.Spec PyProof.Rows

noncomputable abbrev Key := Sum Int Str
noncomputable def keyIs : Key → Value → Bool
  | .inl k, v => Value.isInt k v
  | .inr x, v => Value.isStrOf x v
noncomputable def keyH (w : World) : Key → Int
  | .inl k => hashInt k
  | .inr x => hashStr w x
theorem keyIs_shape : ∀ {k : Key} {v : Value}, keyIs k v = true → (∃ i t, k = Sum.inl i ∧ v = Value.int i t) ∨ (∃ x t, k = Sum.inr x ∧ v = Value.str x t)
  | .inl i, v, h => by
    obtain ⟨t, e⟩ := Value.isInt_shape (k := i) (v := v) h
    exact .inl ⟨i, t, rfl, e⟩
  | .inr x, v, h => by
    obtain ⟨t, e⟩ := Value.isStrOf_shape (x := x) (v := v) h
    exact .inr ⟨x, t, rfl, e⟩
theorem keyIs_int (i : Int) (t : Tok) : keyIs (.inl i) (.int i t) = true := by simp [keyIs, Value.isInt]
theorem keyIs_str (x : Str) (t : Tok) : keyIs (.inr x) (.str x t) = true := by simp [keyIs, Value.isStrOf]
theorem key_ll (a b : Int) : decide ((Sum.inl a : Key) = Sum.inl b) = (a == b) := by
  by_cases e : a = b
  · subst e; simp
  · have h : ¬ (Sum.inl a : Key) = Sum.inl b := fun q => e (Sum.inl.inj q)
    rw [decide_eq_false h]
    exact (beq_eq_false_iff_ne.mpr e).symm
theorem key_rr (a b : Str) : decide ((Sum.inr a : Key) = Sum.inr b) = decide (a = b) := by
  by_cases e : a = b
  · subst e; simp
  · have h : ¬ (Sum.inr a : Key) = Sum.inr b := fun q => e (Sum.inr.inj q)
    rw [decide_eq_false h, decide_eq_false e]
theorem key_lr (a : Int) (b : Str) : decide ((Sum.inl a : Key) = Sum.inr b) = false := decide_eq_false (fun q => nomatch q)
theorem key_rl (a : Str) (b : Int) : decide ((Sum.inr a : Key) = Sum.inl b) = false := decide_eq_false (fun q => nomatch q)

noncomputable def mixKind (prog : Program) (w : World) : PySem.KeyKind prog w Key where
  is := keyIs
  hash := keyH w
  inj := fun v a b ha hb => by
    rcases keyIs_shape ha with ⟨i, t, rfl, rfl⟩ | ⟨x, t, rfl, rfl⟩
    · rcases keyIs_shape hb with ⟨j, u, rfl, e⟩ | ⟨y, u, rfl, e⟩
      · injection e with e1 _; rw [e1]
      · exact nomatch e
    · rcases keyIs_shape hb with ⟨j, u, rfl, e⟩ | ⟨y, u, rfl, e⟩
      · exact nomatch e
      · injection e with e1 _; rw [e1]
  byValue := fun k v h => by
    rcases keyIs_shape h with ⟨i, t, rfl, rfl⟩ | ⟨x, t, rfl, rfl⟩ <;> rfl
  pyHash := fun hv h => by
    rcases keyIs_shape hv with ⟨i, t, rfl, rfl⟩ | ⟨x, t, rfl, rfl⟩
    · exact wpAny_pyHash_int h
    · exact wpAny_pyHash_str h
  eqBool := fun hu hv h => by
    rcases keyIs_shape hu with ⟨i, t, rfl, rfl⟩ | ⟨x, t, rfl, rfl⟩
    · rcases keyIs_shape hv with ⟨j, u, rfl, rfl⟩ | ⟨y, u, rfl, rfl⟩
      · rw [key_ll] at h; exact wpAny_eqBool_int h
      · rw [key_lr] at h; exact SeqAt.EqAt.int_str i t y u _ _ _ _ h
    · rcases keyIs_shape hv with ⟨j, u, rfl, rfl⟩ | ⟨y, u, rfl, rfl⟩
      · rw [key_rl] at h; exact SeqAt.EqAt.str_int x t j u _ _ _ _ h
      · rw [key_rr] at h; exact wpAny_eqBool_str h
  «strs» := fun k x t v h => by
    rcases keyIs_shape h with ⟨i, u, rfl, e⟩ | ⟨y, u, rfl, e⟩
    · exact nomatch e
    · injection e with e1 _
      subst e1
      cases v <;> rfl

theorem mixKind_int (prog : Program) (w : World) (i : Int) (t : Tok) : (mixKind prog w).is (.inl i) (.int i t) = true := keyIs_int i t
theorem mixKind_str (prog : Program) (w : World) (x : Str) (t : Tok) : (mixKind prog w).is (.inr x) (.str x t) = true := keyIs_str x t
end L2

namespace L2
open PySem PySem.Spec PyProof.Rows

set_option genInjectivity true in
inductive V where
  | non | bl (b : Bool) | int (i : Int) | str (x : Str) | byt (b : Array UInt8) | flt (b : UInt64) | ref (a : Addr) | ty (n : String)
  deriving DecidableEq

noncomputable def RelV : V → Value → Prop
  | .non, u => u = Value.none
  | .bl b, u => u = Value.bool b
  | .int i, u => ∃ t, u = Value.int i t
  | .str x, u => ∃ t, u = Value.str x t
  | .byt b, u => ∃ t, u = Value.bytes b t
  | .flt b, u => ∃ t, u = Value.float b t
  | .ref a, u => u = Value.ref a
  | .ty n, u => u = Value.type n

noncomputable abbrev Vals : List V → List Value → Prop := Paired RelV
theorem Vals.length {xs : List V} {us : List Value} (r : Vals xs us) : xs.length = us.length := Paired.length r
theorem Vals.get : ∀ {xs : List V} {us : List Value} {i : Nat} {x : V}, Vals xs us → xs[i]? = some x → ∃ u, us[i]? = some u ∧ RelV x u
  | _, _, _, _, .nil, e => by simp at e
  | _, _, 0, _, .cons r _, e => by simp at e; subst e; exact ⟨_, rfl, r⟩
  | _, _, i + 1, x, .cons _ t, e => by
    obtain ⟨u, h1, h2⟩ := Vals.get (i := i) (x := x) t (by simpa using e)
    exact ⟨u, by simpa using h1, h2⟩
theorem Vals.set {x : V} {u : Value} (r : RelV x u) : ∀ {xs : List V} {us : List Value} (i : Nat), Vals xs us → Vals (xs.set i x) (us.set i u)
  | _, _, _, .nil => .nil
  | _, _, 0, .cons _ t => .cons r t
  | _, _, i + 1, .cons q t => .cons q (Vals.set r i t)
theorem Vals.append : ∀ {xs ys : List V} {us ws : List Value}, Vals xs us → Vals ys ws → Vals (xs ++ ys) (us ++ ws)
  | _, _, _, _, .nil, s => s
  | _, _, _, _, .cons r t, s => .cons r (Vals.append t s)
theorem Vals.take : ∀ {xs : List V} {us : List Value} (n : Nat), Vals xs us → Vals (xs.take n) (us.take n)
  | _, _, 0, _ => .nil
  | _, _, _ + 1, .nil => .nil
  | _, _, n + 1, .cons r t => .cons r (Vals.take n t)
theorem Vals.drop : ∀ {xs : List V} {us : List Value} (n : Nat), Vals xs us → Vals (xs.drop n) (us.drop n)
  | _, _, 0, r => r
  | _, _, _ + 1, .nil => .nil
  | _, _, n + 1, .cons _ t => Vals.drop n t
theorem Vals.none_of : ∀ {xs : List V} {us : List Value} {i : Nat}, Vals xs us → xs[i]? = none → us[i]? = none := fun {xs us i} r e => by
  have h1 := r.length
  have h2 : xs.length ≤ i := List.getElem?_eq_none_iff.mp e
  exact List.getElem?_eq_none_iff.mpr (by omega)

noncomputable def RelO : Option V → Option Value → Prop
  | some v, some u => RelV v u
  | none, none => True
  | _, _ => False
noncomputable def KV {κ : Type} : List (κ × V) → List (κ × Value) → Prop := Paired fun (p : κ × V) (q : κ × Value) => p.1 = q.1 ∧ RelV p.2 q.2

noncomputable def kV : Key → V
  | .inl i => .int i
  | .inr x => .str x

inductive HO where
  | lst (xs : List V)
  | tup (xs : List V)
  | dK (kvs : List (Key × V)) | dT (kvs : List (List Key × V))
  | set (S : Int → Bool) (n : Nat)
  | ins (C dx : Addr) (fs : List (Str × V))
  | own (x : Addr)
  | xd (fs : List (Str × V))
  | met (f x : Addr)
  | rng (lo hi : Int)
  | frz (o : Obj) (u : HO)
  | tbl (ps : Array Value)
  | ext (φ : Heap → Prop)

noncomputable abbrev Hp := Addr → Option HO
noncomputable def upd (H : Hp) (a : Addr) (o : HO) : Hp := fun b => if b = a then some o else H b
theorem upd_same {H : Hp} {a : Addr} {o : HO} : upd H a o a = some o := by unfold upd; rw [if_pos rfl]
theorem upd_ne {H : Hp} {a b : Addr} {o : HO} (h : b ≠ a) : upd H a o b = H b := by unfold upd; rw [if_neg h]
theorem ne_of {H : Hp} {a b : Addr} {o u : HO} (h : H a = some o) (h' : H b = some u) (d : o ≠ u) : a ≠ b := by
  intro e; subst e; rw [h] at h'; exact d (Option.some.inj h')
theorem ne_of_none {H : Hp} {a b : Addr} {o : HO} (h : H a = some o) (h' : H b = none) : a ≠ b := by
  intro e; subst e; rw [h] at h'; cases h'

section
variable (P : Program) (w : World)
noncomputable def ObjOk (H : Hp) (h : Heap) (a : Addr) : HO → Prop
  | .lst xs => xs.length ≤ sizeLine ∧ ∃ (its : List Value) (n : Nat), Vals xs its ∧ h.get? a = some { cls := .type "list", data := .seq its.toArray n }
  | .tup xs => xs.length ≤ sizeLine ∧ ∃ its : List Value, Vals xs its ∧ IsTup h a its.toArray
  | .dK kvs => kvs.length ≤ sizeLine ∧ (a == sysModules) = false ∧ ∃ vs, KV kvs vs ∧ h.DictOf (mixKind P w) a vs
  | .dT kvs => kvs.length ≤ sizeLine ∧ (a == sysModules) = false ∧ ∃ xs : List (List Key × Addr × Value),
      Paired (fun (p : List Key × V) (q : List Key × Addr × Value) => p.1 = q.1 ∧ H q.2.1 = some (.tup (p.1.map kV)) ∧ RelV p.2 q.2.2) kvs xs ∧
      ∃ o es ep, h.get? a = some o ∧ o.ExactDict ∧ o.data = .dict es ep ∧ es.toList = xs.map (entryOfKey (tupleKind (mixKind P w))) ∧ (xs.map (·.1)).Nodup
  | .set S n => h.SetOf (intKind P w) a S n
  | .ins C dx fs => H dx = some (.own a) ∧ fs.length ≤ 1000 ∧ dx ≠ a ∧ h.get? a = some (PySem.W.instObj C dx) ∧
      ∃ mA, h.Ns1 dx mA ∧ (∀ f, RelO (fs.lookup f) (mA f)) ∧ PySem.Within mA (fs.map (·.1))
  | .own _ => ∃ o, h.get? a = some o
  | .xd fs => ∃ mA, h.Ns1 a mA ∧ ∀ f, RelO (fs.lookup f) (mA f)
  | .rng lo hi => ∃ t u v, h.get? a = some { cls := .type "range", data := .fields #[.int lo t, .int hi u, .int 1 v] }
  | .frz o u => h.get? a = some o ∧ ObjOk H h a u
  | .tbl ps => h.get? a = some { cls := .none, data := .fields ps }
  | .met f x => h.get? a = some (PySem.W.methodObj (.ref f) (.ref x))
  | .ext φ => φ h ∧ (∃ o, h.get? a = some o) ∧ ∀ h1 h2 : Heap, φ h1 → (∀ o, h1.get? a = some o → h2.get? a = some o) → φ h2
noncomputable def HOk (H : Hp) (h : Heap) : Prop := ∀ a o, H a = some o → ObjOk P w H h a o
end

section
variable {P : Program} {w : World} {H H' : Hp} {h h' : Heap} {a : Addr} {o : HO}
theorem ObjOk.lt (x : ObjOk P w H h a o) : a < h.objs.size := by
  cases o with
  | lst xs => obtain ⟨_, _, _, _, e⟩ := x; exact Heap.lt_size e
  | tup xs => obtain ⟨_, _, _, p⟩ := x; exact p.lt
  | dK kvs => obtain ⟨_, _, _, _, o, _, _, e, _⟩ := x; exact Heap.lt_size e
  | dT kvs => obtain ⟨_, _, _, _, o, _, _, e, _⟩ := x; exact Heap.lt_size e
  | set S n => obtain ⟨o, _, _, _, e, _⟩ := x; exact Heap.lt_size e
  | ins C dx fs => obtain ⟨_, _, _, e, _⟩ := x; exact Heap.lt_size e
  | own y => obtain ⟨_, e⟩ := x; exact Heap.lt_size e
  | xd fs => obtain ⟨_, ⟨_, _, _, e, _⟩, _⟩ := x; exact Heap.lt_size e
  | rng lo hi => obtain ⟨_, _, _, e⟩ := x; exact Heap.lt_size e
  | frz ob u => obtain ⟨e, _⟩ := x; exact Heap.lt_size e
  | tbl ps => exact Heap.lt_size (show h.get? a = some _ from x)
  | met f y => exact Heap.lt_size (show h.get? a = some _ from x)
  | ext φ => obtain ⟨_, ⟨_, e⟩, _⟩ := x; exact Heap.lt_size e
theorem Paired.mapP {α β : Type} {F G : α → β → Prop} : ∀ {l₁ : List α} {l₂ : List β}, Paired F l₁ l₂ → (∀ a b, F a b → G a b) → Paired G l₁ l₂
  | _, _, .nil, _ => .nil
  | _, _, .cons r t, f => .cons (f _ _ r) (Paired.mapP t f)
theorem ObjOk.stay (x : ObjOk P w H h a o) (k : ∀ b u, (b = a ∨ H b = some (.own a)) → h.get? b = some u → h'.get? b = some u)
    (ho : ∀ b, H b = some (.own a) → H' b = some (.own a)) (ht : ∀ b xs, H b = some (.tup xs) → H' b = some (.tup xs)) : ObjOk P w H' h' a o := by
  induction o with
  | lst xs => obtain ⟨z, its, n, r, e⟩ := x; exact ⟨z, its, n, r, k _ _ (.inl rfl) e⟩
  | tup xs => obtain ⟨z, its, r, ob, e, c⟩ := x; exact ⟨z, its, r, ob, k _ _ (.inl rfl) e, c⟩
  | dK kvs => obtain ⟨z, y, vs, r, ob, es, ep, e, c⟩ := x; exact ⟨z, y, vs, r, ob, es, ep, k _ _ (.inl rfl) e, c⟩
  | dT kvs =>
    obtain ⟨z, y, xs, r, ob, es, ep, e, c⟩ := x
    exact ⟨z, y, xs, Paired.mapP r fun p q z => ⟨z.1, ht _ _ z.2.1, z.2.2⟩, ob, es, ep, k _ _ (.inl rfl) e, c⟩
  | set S n => obtain ⟨ob, es, ep, t, e, c⟩ := x; exact ⟨ob, es, ep, t, k _ _ (.inl rfl) e, c⟩
  | ins C dx fs =>
    obtain ⟨d, z, ne, e, mA, ⟨od, es, ep, e2, c⟩, r⟩ := x
    exact ⟨ho _ d, z, ne, k _ _ (.inl rfl) e, mA, ⟨od, es, ep, k _ _ (.inr d) e2, c⟩, r⟩
  | own y => obtain ⟨ob, e⟩ := x; exact ⟨ob, k _ _ (.inl rfl) e⟩
  | xd fs => obtain ⟨mA, ⟨od, es, ep, e, c⟩, r⟩ := x; exact ⟨mA, ⟨od, es, ep, k _ _ (.inl rfl) e, c⟩, r⟩
  | rng lo hi => obtain ⟨t, u, v, e⟩ := x; exact ⟨t, u, v, k _ _ (.inl rfl) e⟩
  | frz ob u ih => obtain ⟨e, q⟩ := x; exact ⟨k _ _ (.inl rfl) e, ih q⟩
  | tbl ps =>
    have e : h.get? a = some { cls := .none, data := .fields ps } := x
    show h'.get? a = some { cls := .none, data := .fields ps }
    exact k a _ (.inl rfl) e
  | met f y =>
    have e : h.get? a = some (PySem.W.methodObj (.ref f) (.ref y)) := x
    show h'.get? a = some (PySem.W.methodObj (.ref f) (.ref y))
    exact k a _ (.inl rfl) e
  | ext φ => obtain ⟨p, ⟨o, e⟩, st⟩ := x; exact ⟨st _ _ p fun o q => k _ _ (.inl rfl) q, ⟨o, k _ _ (.inl rfl) e⟩, st⟩
theorem HOk.lt (x : HOk P w H h) (e : H a = some o) : a < h.objs.size := (x a o e).lt
theorem HOk.fresh (x : HOk P w H h) (e : h.objs.size ≤ a) : H a = none := by
  cases q : H a with
  | none => rfl
  | some u => exact absurd (Nat.lt_of_lt_of_le (x.lt q) e) (Nat.lt_irrefl _)
theorem HOk.kept (x : HOk P w H h) (k : ∀ b u, h.get? b = some u → h'.get? b = some u) : HOk P w H h' := fun a o e =>
  (x a o e).stay (fun b u _ q => k b u q) (fun _ q => q) fun _ _ q => q
theorem HOk.laid (x : HOk P w H h) (k : ∀ b u, h.get? b = some u → h'.get? b = some u) (hp : h.objs.size ≤ a) (new : ObjOk P w (upd H a o) h' a o) : HOk P w (upd H a o) h' := fun b u e => by
  have hn := x.fresh hp
  by_cases hb : b = a
  · subst hb; rw [upd_same] at e; cases e; exact new
  · rw [upd_ne hb] at e
    exact (x b u e).stay (fun c v _ q => k c v q) (fun c q => by rw [upd_ne (ne_of_none q hn)]; exact q) fun c xs q => by rw [upd_ne (ne_of_none q hn)]; exact q
end

noncomputable def Rd (H : Hp) (a : Addr) (u : HO) : Prop := H a = some u ∨ ∃ o, H a = some (.frz o u)
theorem Rd.of {H : Hp} {a : Addr} {u : HO} (h : H a = some u) : Rd H a u := .inl h
theorem Rd.ok {P : Program} {w : World} {H : Hp} {h : Heap} {a : Addr} {u : HO} (r : Rd H a u) (x : HOk P w H h) : ObjOk P w H h a u := by
  rcases r with r | ⟨o, r⟩
  · exact x a u r
  · obtain ⟨_, q⟩ := x a _ r
    exact q
noncomputable def Mut : Option HO → Prop
  | some (.lst _) => True
  | some (.dK _) => True
  | some (.dT _) => True
  | some (.set _ _) => True
  | some (.ins _ _ _) => True
  | some (.ext _) => True
  | _ => False
section
variable {P : Program} {w : World} {H : Hp} {h h' : Heap} {x e : Addr} {o' : HO}
theorem HOk.write (ok : HOk P w H h) (mu : Mut (H x)) (he : e = x ∨ H e = some (.own x)) (k : ∀ b u, b ≠ e → h.get? b = some u → h'.get? b = some u) (heo : ∃ u, h'.get? e = some u)
    (new : ObjOk P w (upd H x o') h' x o') : HOk P w (upd H x o') h' := fun b u q => by
  have nown : ∀ c y, H c = some (.own y) → c ≠ x := fun c y r z => by subst z; rw [r] at mu; exact mu
  have ntup : ∀ c xs, H c = some (.tup xs) → c ≠ x := fun c xs r z => by subst z; rw [r] at mu; exact mu
  by_cases hb : b = x
  · subst hb; rw [upd_same] at q; cases q; exact new
  · rw [upd_ne hb] at q
    by_cases hbe : b = e
    · have q' : H b = some (.own x) := by
        rcases he with z | z
        · exact absurd (hbe.trans z) hb
        · rw [hbe]; exact z
      rw [q] at q'; cases q'
      obtain ⟨v, hv⟩ := heo
      exact ⟨v, by rw [hbe]; exact hv⟩
    · refine (ok b u q).stay (fun c v hc r => k c v ?_ r) (fun c r => by rw [upd_ne (nown c b r)]; exact r) fun c xs r => by rw [upd_ne (ntup c xs r)]; exact r
      rcases hc with rfl | hc
      · exact hbe
      · rintro rfl
        rcases he with z | z
        · exact nown c b hc z
        · rw [hc] at z; cases z; exact hb rfl
end

structure Un (fs ex : List Addr) (H H' : Hp) (h h' : Heap) : Prop where
  keep : ∀ b o, h.get? b = some o → H b = none → b ∉ fs → b ∉ ex → h'.get? b = some o
  slot : ∀ b o, h.get? b = some o → H b = none → b ∈ fs → b ∉ ex → ∃ sl, h'.get? b = some { o with slots := sl }
  free : ∀ b o, h.get? b = some o → H b = none → b ∉ ex → H' b = none
  there : ∀ b o, h.get? b = some o → b ∉ ex → ∃ o', h'.get? b = some o'
  tups : ∀ b xs, H b = some (.tup xs) → H' b = some (.tup xs)
  frzs : ∀ b o u, H b = some (.frz o u) → H' b = some (.frz o u)
  tbls : ∀ b ps, H b = some (.tbl ps) → ∃ more, H' b = some (.tbl (ps ++ more))
section
variable {fs fs' ex ex' : List Addr} {H H1 H2 : Hp} {h h1 h2 h' : Heap} {a x e : Addr} {o : HO}
theorem Un.any (u : Un fs ex H H1 h h1) {b : Addr} {ob : Obj} (q : h.get? b = some ob) (n : H b = none) (hx : b ∉ ex) : ∃ sl, h1.get? b = some { ob with slots := sl } := by
  by_cases hb : b ∈ fs
  · exact u.slot b ob q n hb hx
  · exact ⟨ob.slots, u.keep b ob q n hb hx⟩
theorem Un.trans (a : Un fs ex H H1 h h1) (b : Un fs ex H1 H2 h1 h2) : Un fs ex H H2 h h2 where
  keep := fun c ob q n hc hx => b.keep c ob (a.keep c ob q n hc hx) (a.free c ob q n hx) hc hx
  slot := fun c ob q n hc hx => by
    obtain ⟨sl, e1⟩ := a.slot c ob q n hc hx
    obtain ⟨sl', e2⟩ := b.slot c _ e1 (a.free c ob q n hx) hc hx
    exact ⟨sl', e2⟩
  free := fun c ob q n hx => by
    obtain ⟨o', e1⟩ := a.there c ob q hx
    exact b.free c o' e1 (a.free c ob q n hx) hx
  there := fun c ob q hx => by
    obtain ⟨o', e1⟩ := a.there c ob q hx
    exact b.there c o' e1 hx
  tups := fun c xs q => b.tups c xs (a.tups c xs q)
  frzs := fun c ob xs q => b.frzs c ob xs (a.frzs c ob xs q)
  tbls := fun c ps q => by
    obtain ⟨m1, e1⟩ := a.tbls c ps q
    obtain ⟨m2, e2⟩ := b.tbls c _ e1
    exact ⟨m1 ++ m2, by rw [e2, Array.append_assoc]⟩
theorem Un.kept (k : ∀ b u, h.get? b = some u → h'.get? b = some u) : Un fs ex H H h h' :=
  ⟨fun b ob q _ _ _ => k b ob q, fun b ob q _ _ _ => ⟨ob.slots, k b ob q⟩, fun _ _ _ n _ => n, fun b ob q _ => ⟨ob, k b ob q⟩, fun _ _ q => q, fun _ _ _ q => q, fun _ ps q => ⟨#[], by rw [q]; simp⟩⟩
theorem Un.refl : Un fs ex H H h h := Un.kept fun _ _ q => q
theorem Un.laid (k : ∀ b u, h.get? b = some u → h'.get? b = some u) (hp : h.objs.size ≤ a) (hn : H a = none) : Un fs ex H (upd H a o) h h' where
  keep := fun b u q _ _ _ => k b u q
  slot := fun b u q _ _ _ => ⟨u.slots, k b u q⟩
  free := fun b u q n _ => by rw [upd_ne (Nat.ne_of_lt (Nat.lt_of_lt_of_le (Heap.lt_size q) hp))]; exact n
  there := fun b u q _ => ⟨u, k b u q⟩
  tups := fun b xs q => by rw [upd_ne (ne_of_none q hn)]; exact q
  frzs := fun b u xs q => by rw [upd_ne (ne_of_none q hn)]; exact q
  tbls := fun b ps q => ⟨#[], by rw [upd_ne (ne_of_none q hn), q]; simp⟩
theorem Un.write (mu : Mut (H x)) (he : e = x ∨ H e = some (.own x)) (k : ∀ b u, b ≠ e → h.get? b = some u → h'.get? b = some u) (heo : ∃ u, h'.get? e = some u) : Un fs ex H (upd H x o) h h' := by
  have hx : ∀ b, H b = none → b ≠ x := fun b n z => by subst z; rw [n] at mu; exact mu
  have hb : ∀ b, H b = none → b ≠ e := fun b n z => by
    subst z
    rcases he with r | r
    · exact hx b n r
    · rw [n] at r; cases r
  have hm : ∀ b u, H b = some u → ¬ Mut (some u) → b ≠ x := fun b u q nm z => by subst z; rw [q] at mu; exact nm mu
  refine ⟨fun b u q n _ _ => k b u (hb b n) q, fun b u q n _ _ => ⟨u.slots, k b u (hb b n) q⟩, fun b u q n _ => by rw [upd_ne (hx b n)]; exact n, fun b u q _ => ?_,
    fun b xs q => by rw [upd_ne (hm b _ q fun z => z)]; exact q, fun b u xs q => by rw [upd_ne (hm b _ q fun z => z)]; exact q, fun b ps q => ⟨#[], by rw [upd_ne (hm b _ q fun z => z), q]; simp⟩⟩
  by_cases hbe : b = e
  · subst hbe; exact heo
  · exact ⟨u, k b u hbe q⟩
theorem Un.mono (u : Un fs ex H H1 h h1) (hs : ∀ b ∈ fs, b ∈ fs') (hx : ∀ b ∈ ex, b ∈ ex') : Un fs' ex' H H1 h h1 :=
  ⟨fun b ob q n hb he => u.keep b ob q n (fun z => hb (hs b z)) fun z => he (hx b z), fun _ _ q n _ he => u.any q n fun z => he (hx _ z), fun b ob q n he => u.free b ob q n fun z => he (hx b z), fun b ob q he => u.there b ob q fun z => he (hx b z), u.tups, u.frzs, u.tbls⟩
end

noncomputable def trk (h : Heap) (H : Hp) : List Addr := (List.range h.objs.size).filter fun a => (H a).isSome
noncomputable def hidT (h : Heap) (H : Hp) : Heap := PySem.W.hideAll h (trk h H)
theorem hidT_size (h : Heap) (H : Hp) : (hidT h H).objs.size = h.objs.size := PySem.W.hideAll_size _ _
theorem hidT_get {h : Heap} {H : Hp} {b : Addr} {o : Obj} (e : h.get? b = some o) (n : H b = none) : (hidT h H).get? b = some o :=
  PySem.W.hideAll_get _ e fun hm => by
    have q : (H b).isSome = true := (List.mem_filter.mp hm).2
    rw [n] at q; simp at q
theorem of_hidT {h : Heap} {H : Hp} {b : Addr} {o : Obj} (e : (hidT h H).get? b = some o) : h.get? b = some o ∧ H b = none := by
  have e' : h.get? b = some o := PySem.W.of_hideAll (trk h H) e
  refine ⟨e', ?_⟩
  cases q : H b with
  | none => rfl
  | some x =>
    have hm : b ∈ trk h H := List.mem_filter.mpr ⟨List.mem_range.mpr (Heap.lt_size e'), by simp [q]⟩
    have z : (hidT h H).get? b = none := PySem.W.hideAll_none (trk h H) hm
    rw [z] at e; cases e

noncomputable def allNews (g h : Heap) (L : Addr) : List (Addr × Obj) := (List.range h.objs.size).filterMap fun a => if a = L ∨ (g.get? a).isSome = true then none else (h.get? a).map fun o => (a, o)
noncomputable def rest (g h : Heap) (L d : Addr) : List (Addr × Obj) := (allNews g h L).filter fun p => decide (p.1 ≠ d)
end L2

namespace L2
open PySem PySem.Spec PyProof.Rows

structure Mod (K : PySem.W.Frag) (mg : Str → Option Value) (base : Heap) : Prop where
  kin : K.In base
  glob : base.Ns mainGlobals mg
  blt : ∃ mb, base.Ns builtinsNs mb ∧ ∀ x : Str, x ≠ "__name__" → mb x = bootBuiltins x
  nolimit : base.NoLimit

/-- the context: a def's body (or a comprehension's block) running. base: fixed through the whole law; s₀, H₀: the entry; outer: the frames whose slots others may change (a def's callers); stack: all frames that run;
   ex: iterators that were made ahead of the entry and are walked here (a comprehension's); fn: the names whose cells were made at the entry (a def: all; a comprehension's block: its own); calm: not within an except suite; pn: pins that every state bears; xe: what is wanted of an exception that leaves the code -/
structure Cx where
  prog : Program
  w : World
  K : PySem.W.Frag
  mg : Str → Option Value
  base : Heap
  A : Around
  N : List Str
  s₀ : Shared
  H₀ : Hp
  env : Env
  outer : List Env
  stack : List Env
  ex : List Addr
  fn : Str → Bool
  calm : Bool
  pn : List (Addr × Obj)
  xe : Value → Shared → Prop
noncomputable def frs (l : List Env) : List Addr := l.filterMap (·.frame)
noncomputable abbrev Cx.fs (X : Cx) : List Addr := frs X.outer

noncomputable def Vis (sc : Scope) (x : Str) : Prop := sc.names.lookup x = some .local ∨ sc.names.lookup x = some .cell ∨ sc.names.lookup x = some .free
noncomputable def Loc (sc : Scope) (x : Str) : Prop := sc.names.lookup x = some .local ∨ sc.names.lookup x = some .cell
noncomputable def Look (env : Env) (h : Heap) (m : Str → Option Value) (x : Str) (u : Value) : Prop :=
  (env.kindOf x = some .local ∧ m x = some u) ∨ ((env.kindOf x = some .cell ∨ env.kindOf x = some .free) ∧ ∃ c, env.cells.lookup x = some c ∧ h.IsCell c (some u))

structure Cx.Ok (X : Cx) : Prop where
  mod : Mod X.K X.mg X.base
  kind : X.env.scope.kind = .function
  glob : X.env.globals = mainGlobals
  blt : X.env.builtins = builtinsNs
  above : X.s₀.heap.objs.size ≤ X.env.locals
  inj : ∀ x y c, X.env.cells.lookup x = some c → X.env.cells.lookup y = some c → x = y
  has : ∀ x, (X.env.kindOf x = some .cell ∨ X.env.kindOf x = some .free) → ∃ c, X.env.cells.lookup x = some c
  cab : ∀ x c, X.fn x = true → X.env.cells.lookup x = some c → X.s₀.heap.objs.size ≤ c
  hd : X.calm = true → X.A.handled = none
  frames : X.A.frames = some X.stack
  stk : X.stack = X.outer ∨ (X.stack = X.env :: X.outer ∧ X.env.frame = some X.env.locals)
  exf : ∀ b ∈ X.ex, b ≠ X.env.locals ∧ ∀ x c, X.env.cells.lookup x = some c → c ≠ b
  bs : ∀ b o, X.base.get? b = some o → X.s₀.heap.get? b = some o ∧ X.H₀ b = none
  bsz : X.base.objs.size ≤ X.s₀.heap.objs.size
  noex : ∀ b o, X.base.get? b = some o → b ∉ X.ex
  exfs : ∀ b ∈ X.ex, b ∉ X.fs
  funs : X.s₀.heap.FunFrames X.base X.outer
  frf : ∀ b ∈ X.fs, X.H₀ b = none

structure Inv (X : Cx) (pins : List (Addr × Obj)) (σ : List (Option V)) (H : Hp) (s : Shared) : Prop where
  ok : X.Ok
  os : s.os = X.s₀.os
  bare : AllBare s.gens
  base : Un X.fs X.ex X.H₀ H X.s₀.heap s.heap
  loc : ∃ m, s.heap.Ns X.env.locals m ∧ ∀ (i : Nat) (x : Str) (v : V), X.N[i]? = some x → σ[i]? = some (some v) → Vis X.env.scope x → ∃ u, RelV v u ∧ Look X.env s.heap m x u
  cell : ∀ x c, X.env.cells.lookup x = some c → ∃ v, s.heap.IsCell c v
  free : H X.env.locals = none
  freeC : ∀ x c, X.env.cells.lookup x = some c → H c = none
  pin : ∀ p ∈ X.pn ++ pins, s.heap.get? p.1 = some p.2 ∧ H p.1 = none ∧ p.1 ≠ X.env.locals ∧ p.1 ∉ X.fs ∧ ∀ v, p.2.data ≠ .cell v
  hok : HOk X.prog X.w H s.heap
  len : σ.length = X.N.length

section
variable {X : Cx} {pins : List (Addr × Obj)} {σ : List (Option V)} {H H' : Hp} {s : Shared} {h' : Heap}

theorem Cx.Ok.nofr (ok : X.Ok) {b : Addr} {o : Obj} (e : X.base.get? b = some o) : b ∉ X.fs := fun hb => by
  have := (ok.funs.mem hb).1
  rw [e] at this; cases this
theorem Inv.bs (I : Inv X pins σ H s) : ∀ b o, X.base.get? b = some o → s.heap.get? b = some o ∧ H b = none := fun b o e =>
  ⟨I.base.keep b o (I.ok.bs b o e).1 (I.ok.bs b o e).2 (I.ok.nofr e) (I.ok.noex b o e), I.base.free b o (I.ok.bs b o e).1 (I.ok.bs b o e).2 (I.ok.noex b o e)⟩
theorem Inv.bk (I : Inv X pins σ H s) : ∀ b o, X.base.get? b = some o → s.heap.get? b = some o := fun b o e => (I.bs b o e).1
theorem Inv.mod (I : Inv X pins σ H s) : Mod X.K X.mg X.base := I.ok.mod
theorem Inv.kIn (I : Inv X pins σ H s) : X.K.In s.heap := I.ok.mod.kin.keeps I.bk
theorem Inv.nolimit (I : Inv X pins σ H s) : s.heap.NoLimit := I.ok.mod.nolimit.keeps I.bk
theorem Inv.fr (I : Inv X pins σ H s) : ∃ m, Fr X.base X.env.locals s.heap m :=
  let ⟨m, hn, _⟩ := I.loc
  ⟨m, hn, I.bk, Nat.le_trans I.ok.bsz I.ok.above⟩
theorem Inv.lt (I : Inv X pins σ H s) : X.env.locals < s.heap.objs.size := let ⟨_, hn, _⟩ := I.loc; hn.lt
theorem Inv.sz (I : Inv X pins σ H s) : X.s₀.heap.objs.size ≤ s.heap.objs.size := Nat.le_trans I.ok.above (Nat.le_of_lt I.lt)
theorem Inv.nofs (I : Inv X pins σ H s) {a : Addr} (h : s.heap.objs.size ≤ a) : a ∉ X.fs := fun hb => by
  obtain ⟨_, o, ho, _⟩ := I.ok.funs.mem hb
  exact absurd (Nat.lt_of_lt_of_le (Heap.lt_size ho) (Nat.le_trans I.sz h)) (Nat.lt_irrefl _)
theorem Inv.cne (I : Inv X pins σ H s) : ∀ x c, X.env.cells.lookup x = some c → c ≠ X.env.locals := fun x c e z => by
  obtain ⟨v, o, ho, hd⟩ := I.cell x c e
  obtain ⟨m, ⟨o', es, ep, ho', hd', _⟩, _⟩ := I.loc
  rw [z, ho'] at ho; cases ho; rw [hd'] at hd; cases hd
theorem Inv.funs (I : Inv X pins σ H s) : s.heap.FunFrames X.base X.outer := by
  have all : ∀ (l : List Env), (∀ b ∈ frs l, b ∈ X.fs) → X.s₀.heap.FunFrames X.base l → s.heap.FunFrames X.base l := by
    intro l
    induction l with
    | nil => intro _ _; trivial
    | cons env r ih =>
      intro hs hl
      obtain ⟨hk, ⟨L, o, hf, hn, ho, hd⟩, hr⟩ := hl
      have hL : L ∈ X.fs := hs L (by unfold frs; rw [List.filterMap_cons, hf]; exact List.mem_cons_self)
      obtain ⟨sl, e⟩ := I.base.slot L o ho (I.ok.frf L hL) hL fun z => I.ok.exfs L z hL
      exact ⟨hk, ⟨L, _, hf, hn, e, hd⟩, ih (fun b hb => hs b (by unfold frs; rw [List.filterMap_cons, hf]; exact List.mem_cons_of_mem _ hb)) hr⟩
  exact all X.outer (fun _ hb => hb) I.ok.funs

theorem Inv.stack (I : Inv X pins σ H s) : s.heap.FunFrames X.base X.stack := by
  rcases I.ok.stk with e | ⟨e, hf⟩
  · rw [e]; exact I.funs
  · rw [e]
    obtain ⟨m, hn, _⟩ := I.loc
    refine .cons (by rw [I.ok.kind]; decide) hf hn ?_ I.funs
    exact Heap.get?_none_of_le (Nat.le_trans I.ok.bsz I.ok.above)
theorem Inv.stkSub (I : Inv X pins σ H s) : ∀ b ∈ frs X.stack, b ∈ X.env.locals :: X.fs := fun b hb => by
  rcases I.ok.stk with e | ⟨e, hf⟩
  · rw [e] at hb; exact List.mem_cons_of_mem _ hb
  · rw [e] at hb
    unfold frs at hb
    rw [List.filterMap_cons, hf] at hb
    exact hb
theorem Inv.stkFree (I : Inv X pins σ H s) : ∀ b ∈ frs X.stack, H b = none := fun b hb => by
  rcases List.mem_cons.mp (I.stkSub b hb) with e | hb
  · rw [e]; exact I.free
  · obtain ⟨_, o, ho, _⟩ := I.ok.funs.mem hb
    exact I.base.free b o ho (I.ok.frf b hb) fun z => I.ok.exfs b z hb

theorem Inv.step {g' : Array GenState} {t' : Nat} {d' : Drawn} {ch : List Addr} (I : Inv X pins σ H s)
    (hch : ∀ b ∈ ch, (b ∈ X.ex ∨ X.s₀.heap.objs.size ≤ b) ∧ b ≠ X.env.locals ∧ (∀ x c, X.env.cells.lookup x = some c → c ≠ b) ∧ ∀ p ∈ X.pn ++ pins, p.1 ≠ b)
    (keep : ∀ b o, b ≠ X.env.locals → b ∉ X.fs → b ∉ ch → s.heap.get? b = some o → H b = none → h'.get? b = some o)
    (slot : ∀ b o, b ≠ X.env.locals → b ∈ X.fs → b ∉ ch → s.heap.get? b = some o → H b = none → ∃ sl, h'.get? b = some { o with slots := sl }) (free : ∀ b o, b ∉ ch → s.heap.get? b = some o → H b = none → H' b = none)
    (there : ∀ b o, b ∉ ch → s.heap.get? b = some o → ∃ o', h'.get? b = some o')
    (tups : ∀ b xs, H b = some (.tup xs) → H' b = some (.tup xs)) (frzs : ∀ b o u, H b = some (.frz o u) → H' b = some (.frz o u)) (tbls : ∀ b ps, H b = some (.tbl ps) → ∃ more, H' b = some (.tbl (ps ++ more)))
    (ns : ∀ m, s.heap.Ns X.env.locals m → h'.Ns X.env.locals m) (hok : HOk X.prog X.w H' h') (hg : AllBare g') :
    Inv X pins σ H' { s with heap := h', gens := g', drawn := d', toks := t' } := by
  have neL : ∀ b o, X.s₀.heap.get? b = some o → b ≠ X.env.locals := fun b o e => Nat.ne_of_lt (Nat.lt_of_lt_of_le (Heap.lt_size e) I.ok.above)
  have neC : ∀ b o, X.s₀.heap.get? b = some o → b ∉ X.ex → b ∉ ch := fun b o e hx hb => by
    rcases (hch b hb).1 with z | z
    · exact hx z
    · exact absurd (Nat.lt_of_lt_of_le (Heap.lt_size e) z) (Nat.lt_irrefl _)
  have cellK : ∀ x c, X.env.cells.lookup x = some c → ∀ v, s.heap.IsCell c v → h'.IsCell c v := fun x c e v ⟨o, ho, hd⟩ => by
    have nch : c ∉ ch := fun z => (hch c z).2.2.1 x c e rfl
    by_cases hc : c ∈ X.fs
    · obtain ⟨sl, q⟩ := slot c o (I.cne x c e) hc nch ho (I.freeC x c e)
      exact ⟨_, q, hd⟩
    · exact ⟨o, keep c o (I.cne x c e) hc nch ho (I.freeC x c e), hd⟩
  refine ⟨I.ok, I.os, hg, ⟨fun b o e n hb hx => ?_, fun b o e n hb hx => ?_, fun b o e n hx => ?_, fun b o e hx => ?_, fun b xs e => tups b xs (I.base.tups b xs e), fun b o xs e => frzs b o xs (I.base.frzs b o xs e), fun b ps e => ?_⟩, ?_, fun x c e => ?_, ?_, fun x c e => ?_, fun p hp => ?_, hok, I.len⟩
  · exact keep b o (neL b o e) hb (neC b o e hx) (I.base.keep b o e n hb hx) (I.base.free b o e n hx)
  · obtain ⟨sl, e1⟩ := I.base.slot b o e n hb hx
    obtain ⟨sl', e2⟩ := slot b _ (neL b o e) hb (neC b o e hx) e1 (I.base.free b o e n hx)
    exact ⟨sl', e2⟩
  · obtain ⟨o', e1⟩ := I.base.there b o e hx
    exact free b o' (neC b o e hx) e1 (I.base.free b o e n hx)
  · obtain ⟨o', e1⟩ := I.base.there b o e hx
    exact there b o' (neC b o e hx) e1
  · obtain ⟨m1, e1⟩ := I.base.tbls b ps e
    obtain ⟨m2, e2⟩ := tbls b _ e1
    exact ⟨m1 ++ m2, by rw [e2, Array.append_assoc]⟩
  · obtain ⟨m, hn, hl⟩ := I.loc
    refine ⟨m, ns m hn, fun i x v e1 e2 e3 => ?_⟩
    obtain ⟨u, r, l⟩ := hl i x v e1 e2 e3
    refine ⟨u, r, ?_⟩
    rcases l with l | ⟨k, c, e, z⟩
    · exact .inl l
    · exact .inr ⟨k, c, e, cellK x c e _ z⟩
  · obtain ⟨v, z⟩ := I.cell x c e
    exact ⟨v, cellK x c e v z⟩
  · obtain ⟨m, ⟨o, _, _, ho, _⟩, _⟩ := I.loc
    exact free _ o (fun z => (hch _ z).2.1 rfl) ho I.free
  · obtain ⟨v, o, ho, hd⟩ := I.cell x c e
    exact free c o (fun z => (hch c z).2.2.1 x c e rfl) ho (I.freeC x c e)
  · obtain ⟨e, n, ne, nf, d⟩ := I.pin p hp
    have nch : p.1 ∉ ch := fun z => (hch p.1 z).2.2.2 p hp rfl
    exact ⟨keep p.1 p.2 ne nf nch e n, free p.1 p.2 nch e n, ne, nf, d⟩
theorem Inv.un {t' : Nat} (I : Inv X pins σ H s) (u : Un X.fs [] H H' s.heap h') (hok : HOk X.prog X.w H' h') : Inv X pins σ H' { s with heap := h', toks := t' } := by
  obtain ⟨m, ⟨o, es, ep, ho, r⟩, _⟩ := id I.loc
  obtain ⟨sl, hL⟩ := u.any ho I.free (by simp)
  exact I.step (g' := s.gens) (d' := s.drawn) (ch := []) (fun _ z => nomatch z) (fun b o _ hb _ e n => u.keep b o e n hb (by simp)) (fun b o _ hb _ e n => u.slot b o e n hb (by simp)) (fun b o _ e n => u.free b o e n (by simp)) (fun b o _ e => u.there b o e (by simp)) u.tups u.frzs u.tbls (fun m' hm => by
    obtain ⟨o', es', ep', ho', r'⟩ := hm
    rw [ho] at ho'; cases ho'
    exact ⟨_, es', ep', hL, r'⟩) hok I.bare
theorem Inv.call {g' : Array GenState} {t' : Nat} {d' : Drawn} {ch : List Addr} (I : Inv X pins σ H s) (u : Un (frs X.stack) ch H H' s.heap h') (hok : HOk X.prog X.w H' h') (hg : AllBare g')
    (hch : ∀ b ∈ ch, (b ∈ X.ex ∨ X.s₀.heap.objs.size ≤ b) ∧ b ≠ X.env.locals ∧ (∀ x c, X.env.cells.lookup x = some c → c ≠ b) ∧ ∀ p ∈ X.pn ++ pins, p.1 ≠ b) :
    Inv X pins σ H' { s with heap := h', gens := g', drawn := d', toks := t' } := by
  obtain ⟨m, ⟨o, es, ep, ho, r⟩, _⟩ := id I.loc
  obtain ⟨sl, hL⟩ := u.any ho I.free fun z => (hch _ z).2.1 rfl
  exact I.step (ch := ch) hch (fun b o hL hb hc e n => u.keep b o e n (fun z => (List.mem_cons.mp (I.stkSub b z)).elim hL hb) hc) (fun b o _ _ hc e n => u.any e n hc) (fun b o hc e n => u.free b o e n hc) (fun b o hc e => u.there b o e hc) u.tups u.frzs u.tbls (fun m' hm => by
    obtain ⟨o', es', ep', ho', r'⟩ := hm
    rw [ho] at ho'; cases ho'
    exact ⟨_, es', ep', hL, r'⟩) hok hg
theorem Inv.turned {t' : Nat} {it : Addr} (I : Inv X pins σ H s) (k : ∀ b o, b ≠ it → s.heap.get? b = some o → h'.get? b = some o) (hn : H it = none) (hL : it ≠ X.env.locals)
    (h1 : it ∈ X.ex ∨ X.s₀.heap.objs.size ≤ it) (h2 : ∀ x c, X.env.cells.lookup x = some c → c ≠ it) (h3 : ∀ p ∈ X.pn ++ pins, p.1 ≠ it) : Inv X pins σ H { s with heap := h', toks := t' } := by
  have nit : ∀ b u, H b = some u → b ≠ it := fun b u e z => by rw [z, hn] at e; cases e
  refine I.step (g' := s.gens) (d' := s.drawn) (ch := [it]) (fun b hb => ?_) (fun b o _ _ hc e _ => k b o (fun z => hc (by simp [z])) e) (fun b o _ _ hc e _ => ⟨o.slots, k b o (fun z => hc (by simp [z])) e⟩) (fun _ _ _ _ n => n)
    (fun b o hc e => ⟨o, k b o (fun z => hc (by simp [z])) e⟩) (fun _ _ e => e) (fun _ _ _ e => e) (fun b ps e => ⟨#[], by rw [e]; simp⟩) (fun m hm => ?_) (fun b u e => ?_) I.bare
  · have e : b = it := by simpa using hb
    subst e
    exact ⟨h1, hL, h2, h3⟩
  · obtain ⟨o, es, ep, ho, r⟩ := hm
    exact ⟨o, es, ep, k _ o (Ne.symm hL) ho, r⟩
  · refine (I.hok b u e).stay (fun c v hc q => k c v ?_ q) (fun _ q => q) fun _ _ q => q
    rcases hc with z | z
    · rw [z]; exact nit b u e
    · exact nit c _ z
theorem Inv.tok (I : Inv X pins σ H s) (t : Nat) : Inv X pins σ H { s with toks := t } := I.un (h' := s.heap) (t' := t) Un.refl I.hok
theorem Inv.kept {t' : Nat} (I : Inv X pins σ H s) (k : ∀ b u, s.heap.get? b = some u → h'.get? b = some u) : Inv X pins σ H { s with heap := h', toks := t' } := I.un (Un.kept k) (I.hok.kept k)
theorem Inv.laid {a : Addr} {o : HO} {t' : Nat} (I : Inv X pins σ H s) (k : ∀ b u, s.heap.get? b = some u → h'.get? b = some u) (hp : s.heap.objs.size ≤ a) (new : ObjOk X.prog X.w (upd H a o) h' a o) :
    Inv X pins σ (upd H a o) { s with heap := h', toks := t' } := I.un (Un.laid k hp (I.hok.fresh hp)) (I.hok.laid k hp new)
theorem Inv.write {x e : Addr} {o : HO} {t' : Nat} (I : Inv X pins σ H s) (mu : Mut (H x)) (he : e = x ∨ H e = some (.own x)) (k : ∀ b u, b ≠ e → s.heap.get? b = some u → h'.get? b = some u) (heo : ∃ u, h'.get? e = some u)
    (new : ObjOk X.prog X.w (upd H x o) h' x o) : Inv X pins σ (upd H x o) { s with heap := h', toks := t' } := I.un (Un.write mu he k heo) (I.hok.write mu he k heo new)
theorem Inv.weak {σ' : List (Option V)} (I : Inv X pins σ H s) (hl : σ'.length = σ.length) (w : ∀ (i : Nat) v, σ'[i]? = some (some v) → σ[i]? = some (some v)) : Inv X pins σ' H s :=
  ⟨I.ok, I.os, I.bare, I.base, let ⟨m, hn, hl'⟩ := I.loc; ⟨m, hn, fun i x v e1 e2 e3 => hl' i x v e1 (w i v e2) e3⟩, I.cell, I.free, I.freeC, I.pin, I.hok, hl.trans I.len⟩
theorem Inv.pins_of {pins' : List (Addr × Obj)} (I : Inv X pins σ H s) (h : ∀ p ∈ pins', s.heap.get? p.1 = some p.2 ∧ H p.1 = none ∧ p.1 ≠ X.env.locals ∧ p.1 ∉ X.fs ∧ ∀ v, p.2.data ≠ .cell v) : Inv X pins' σ H s :=
  ⟨I.ok, I.os, I.bare, I.base, I.loc, I.cell, I.free, I.freeC, fun p hp => (List.mem_append.mp hp).elim (fun z => I.pin p (List.mem_append_left _ z)) (h p), I.hok, I.len⟩

theorem nodup_ix {N : List Str} (hN : N.Nodup) {i j : Nat} {x : Str} (a : N[i]? = some x) (b : N[j]? = some x) : i = j := by
  obtain ⟨h1, e1⟩ := List.getElem?_eq_some_iff.mp a
  obtain ⟨h2, e2⟩ := List.getElem?_eq_some_iff.mp b
  exact (List.getElem_inj hN).mp (e1.trans e2.symm)

theorem store_ok2 {M : Model} {A : Around} {E : Value → Shared → Prop} {i : Nat} {x : Str} {v : V} {u : Value} {Q : Unit → Shared → Prop} (I : Inv X pins σ H s) (hN : X.N.Nodup) (hi : X.N[i]? = some x) (hx : Loc X.env.scope x) (r : RelV v u)
    (h : ∀ s', Inv X pins (σ.set i (some v)) H s' → (∃ a, Heap.SameBut a s.heap s'.heap ∧ (a = X.env.locals ∨ X.env.cells.lookup x = some a)) → Q () s') (hf : X.fn x = true ∨ X.env.scope.names.lookup x = some .local := by first | exact .inl rfl | exact .inr rfl | assumption) : wpAny M A (storeName X.env x u) Q E s := by
  obtain ⟨m, hn, hl⟩ := id I.loc
  have hcls : (X.env.scope.kind == .class || (X.env.scope.kind == .module && X.env.locals != X.env.globals)) = false := by rw [I.ok.kind]; rfl
  have hiσ : i < σ.length := by rw [I.len]; exact (List.getElem?_eq_some_iff.mp hi).1
  have cne := I.cne
  have tracked : ∀ {a : Addr} {h' : Heap}, (∃ o, s.heap.get? a = some o ∧ H a = none) → Heap.SameBut a s.heap h' → HOk X.prog X.w H h' := fun {a h'} ha hs b ob e => by
    obtain ⟨_, _, hfree⟩ := ha
    refine (I.hok b ob e).stay (fun c w' hc q => (hs.2 c ?_).trans q) (fun _ q => q) fun _ _ q => q
    rintro rfl
    rcases hc with rfl | hc
    · rw [hfree] at e; cases e
    · rw [hfree] at hc; cases hc
  rcases hx with hk | hk
  · refine wpAny_storeName_local hk hn (fun h' hn' hs => ?_) hcls
    obtain ⟨oL, _, _, hoL, _⟩ := id hn
    refine h _ ⟨I.ok, I.os, I.bare, ⟨fun b o e n hb hx => ?_, fun b o e n hb hx => ?_, I.base.free, fun b o e hx => ?_, I.base.tups, I.base.frzs, I.base.tbls⟩, ⟨_, hn', fun j y v' e1 e2 e3 => ?_⟩, fun y c e => ?_, I.free, I.freeC, fun p hp => ?_, tracked ⟨oL, hoL, I.free⟩ hs, by simpa using I.len⟩ ⟨_, hs, .inl rfl⟩
    · exact (hs.2 b (Nat.ne_of_lt (Nat.lt_of_lt_of_le (Heap.lt_size e) I.ok.above))).trans (I.base.keep b o e n hb hx)
    · obtain ⟨sl, e1⟩ := I.base.slot b o e n hb hx
      exact ⟨sl, (hs.2 b (Nat.ne_of_lt (Nat.lt_of_lt_of_le (Heap.lt_size e) I.ok.above))).trans e1⟩
    · obtain ⟨o', e1⟩ := I.base.there b o e hx
      exact ⟨o', (hs.2 b (Nat.ne_of_lt (Nat.lt_of_lt_of_le (Heap.lt_size e) I.ok.above))).trans e1⟩
    · by_cases hj : j = i
      · subst hj
        rw [hi] at e1; cases e1
        rw [List.getElem?_set_self hiσ] at e2
        cases e2
        exact ⟨u, r, .inl ⟨hk, by simp⟩⟩
      · rw [List.getElem?_set_ne (Ne.symm hj)] at e2
        obtain ⟨u', r', q⟩ := hl j y v' e1 e2 e3
        refine ⟨u', r', ?_⟩
        rcases q with ⟨k, e⟩ | ⟨k, c, e, z⟩
        · refine .inl ⟨k, ?_⟩
          have : y ≠ x := fun e => hj (nodup_ix hN e1 (e ▸ hi))
          simp [this, e]
        · exact .inr ⟨k, c, e, z.sameBut hs (cne y c e)⟩
    · obtain ⟨w', z⟩ := I.cell y c e
      exact ⟨w', z.sameBut hs (cne y c e)⟩
    · obtain ⟨e, n, ne, nf, d⟩ := I.pin p hp
      exact ⟨(hs.2 p.1 ne).trans e, n, ne, nf, d⟩
  · have hfn : X.fn x = true := by
      rcases hf with z | z
      · exact z
      · rw [z] at hk; cases hk
    obtain ⟨c, hc⟩ := I.ok.has x (.inl hk)
    obtain ⟨w', z⟩ := I.cell x c hc
    refine wpAny_storeName_cell I.ok.kind hk hc z (fun h' hc' hs => ?_)
    obtain ⟨oc, hoc, hocd⟩ := id z
    refine h { s with heap := h' } ⟨I.ok, I.os, I.bare, ⟨fun b o e n hb hx => ?_, fun b o e n hb hx => ?_, I.base.free, fun b o e hx => ?_, I.base.tups, I.base.frzs, I.base.tbls⟩, ⟨m, hn.sameBut hs (Ne.symm (cne x c hc)), fun j y v' e1 e2 e3 => ?_⟩, fun y c' e => ?_, I.free, I.freeC, fun p hp => ?_, tracked ⟨oc, hoc, I.freeC x c hc⟩ hs, by simpa using I.len⟩ ⟨c, hs, .inr hc⟩
    · exact (hs.2 b (Nat.ne_of_lt (Nat.lt_of_lt_of_le (Heap.lt_size e) (I.ok.cab x c hfn hc)))).trans (I.base.keep b o e n hb hx)
    · obtain ⟨sl, e1⟩ := I.base.slot b o e n hb hx
      exact ⟨sl, (hs.2 b (Nat.ne_of_lt (Nat.lt_of_lt_of_le (Heap.lt_size e) (I.ok.cab x c hfn hc)))).trans e1⟩
    · obtain ⟨o', e1⟩ := I.base.there b o e hx
      exact ⟨o', (hs.2 b (Nat.ne_of_lt (Nat.lt_of_lt_of_le (Heap.lt_size e) (I.ok.cab x c hfn hc)))).trans e1⟩
    · by_cases hj : j = i
      · subst hj
        rw [hi] at e1; cases e1
        rw [List.getElem?_set_self hiσ] at e2
        cases e2
        exact ⟨u, r, .inr ⟨.inl hk, c, hc, hc'⟩⟩
      · rw [List.getElem?_set_ne (Ne.symm hj)] at e2
        obtain ⟨u', r', q⟩ := hl j y v' e1 e2 e3
        refine ⟨u', r', ?_⟩
        rcases q with q | ⟨k, c', e, z'⟩
        · exact .inl q
        · refine .inr ⟨k, c', e, z'.sameBut hs ?_⟩
          rintro rfl
          exact hj (nodup_ix hN e1 (I.ok.inj _ _ _ e hc ▸ hi))
    · by_cases hcc : c' = c
      · subst hcc; exact ⟨_, hc'⟩
      · obtain ⟨w2, z2⟩ := I.cell y c' e
        exact ⟨w2, z2.sameBut hs hcc⟩
    · obtain ⟨e, n, ne, nf, d⟩ := I.pin p hp
      refine ⟨(hs.2 p.1 ?_).trans e, n, ne, nf, d⟩
      intro q
      rw [q, hoc] at e
      have q' : oc = p.2 := Option.some.inj e
      exact d w' (by rw [← q']; exact hocd)
theorem store_ok {M : Model} {A : Around} {E : Value → Shared → Prop} {i : Nat} {x : Str} {v : V} {u : Value} {Q : Unit → Shared → Prop} (I : Inv X pins σ H s) (hN : X.N.Nodup) (hi : X.N[i]? = some x) (hx : Loc X.env.scope x) (r : RelV v u)
    (h : ∀ s', Inv X pins (σ.set i (some v)) H s' → Q () s') (hf : X.fn x = true ∨ X.env.scope.names.lookup x = some .local := by first | exact .inl rfl | exact .inr rfl | assumption) : wpAny M A (storeName X.env x u) Q E s :=
  store_ok2 I hN hi hx r (fun s' I' _ => h s' I') hf
theorem Inv.call' {s' : Shared} {ch : List Addr} (I : Inv X pins σ H s) (ho : s'.os = s.os) (u : Un (frs X.stack) ch H H' s.heap s'.heap) (hok : HOk X.prog X.w H' s'.heap) (hg : AllBare s'.gens)
    (hch : ∀ b ∈ ch, (b ∈ X.ex ∨ X.s₀.heap.objs.size ≤ b) ∧ b ≠ X.env.locals ∧ (∀ x c, X.env.cells.lookup x = some c → c ≠ b) ∧ ∀ p ∈ X.pn ++ pins, p.1 ≠ b) : Inv X pins σ H' s' := by
  obtain ⟨h', g', d', t', o'⟩ := s'
  have e : o' = s.os := ho
  subst e
  exact I.call (g' := g') (t' := t') (d' := d') u hok hg hch
end

noncomputable abbrev XK := Value → Option Addr → Hp → Prop
noncomputable abbrev St := List (Option V)
noncomputable abbrev VK := V → Hp → Prop
noncomputable abbrev TE := St → Hp → VK → Prop
noncomputable abbrev TT := St → Hp → (Bool → Hp → Prop) → Prop
noncomputable abbrev TA := St → Hp → (List V → Hp → Prop) → Prop
structure Ends where
  nx : St → Hp → Prop
  rt : VK
  bk : St → Hp → Prop := fun _ _ => False
  ct : St → Hp → Prop := fun _ _ => False
noncomputable abbrev TS := Ends → St → Hp → Prop

noncomputable def EP (X : Cx) (pins : List (Addr × Obj)) (σ : St) (Q : VK) (u : Value) (s' : Shared) : Prop := ∃ v H', Inv X pins σ H' s' ∧ RelV v u ∧ Q v H'
noncomputable def TP (X : Cx) (pins : List (Addr × Obj)) (σ : St) (Q : Bool → Hp → Prop) (b : Bool) (s' : Shared) : Prop := ∃ H', Inv X pins σ H' s' ∧ Q b H'
noncomputable def AP (X : Cx) (pins : List (Addr × Obj)) (σ : St) (Q : List V → Hp → Prop) (us : List Value) (s' : Shared) : Prop := ∃ vs H', Inv X pins σ H' s' ∧ Vals vs us ∧ Q vs H'
noncomputable def SP (X : Cx) (pins : List (Addr × Obj)) (D : Ends) (f : Flow) (s' : Shared) : Prop :=
  match f with
  | .next => ∃ σ' H', Inv X pins σ' H' s' ∧ D.nx σ' H'
  | .brk => ∃ σ' H', Inv X pins σ' H' s' ∧ D.bk σ' H'
  | .cont => ∃ σ' H', Inv X pins σ' H' s' ∧ D.ct σ' H'
  | .ret u => ∃ v σ' H', Inv X pins σ' H' s' ∧ RelV v u ∧ D.rt v H'

noncomputable def PE (X : Cx) (e : Expr) (t : TE) : Prop :=
  ∀ (pins : List (Addr × Obj)) (s : Shared) (σ : St) (H : Hp) (Q : VK), Inv X pins σ H s → t σ H Q → wpAny (model X.prog X.w) X.A (eval e X.env) (EP X pins σ Q) X.xe s
noncomputable def PT (X : Cx) (e : Expr) (t : TT) : Prop :=
  ∀ (pins : List (Addr × Obj)) (s : Shared) (σ : St) (H : Hp) (Q : Bool → Hp → Prop), Inv X pins σ H s → t σ H Q → wpAny (model X.prog X.w) X.A (isTrue e X.env (eval e X.env)) (TP X pins σ Q) X.xe s
noncomputable def PW (X : Cx) (e : Expr) (t : TT) : Prop :=
  ∀ (whole : Sem Value) (pins : List (Addr × Obj)) (s : Shared) (σ : St) (H : Hp) (Q : Bool → Hp → Prop), Inv X pins σ H s → t σ H Q → wpAny (model X.prog X.w) X.A (isTrue e X.env whole) (TP X pins σ Q) X.xe s
theorem PW.pt {X : Cx} {e : Expr} {t : TT} (h : PW X e t) : PT X e t := h _
noncomputable def PA (X : Cx) (es : List Expr) (t : TA) : Prop :=
  ∀ (pos : Pos) (pins : List (Addr × Obj)) (s : Shared) (σ : St) (H : Hp) (Q : List V → Hp → Prop), Inv X pins σ H s → t σ H Q → wpAny (model X.prog X.w) X.A (spliced (backTo pos (starEach es X.env))) (AP X pins σ Q) X.xe s
noncomputable def PS (X : Cx) (st : Stmt) (t : TS) : Prop :=
  ∀ (pins : List (Addr × Obj)) (s : Shared) (σ : St) (H : Hp) (D : Ends), Inv X pins σ H s → t D σ H → wpAny (model X.prog X.w) X.A (exec st X.env) (SP X pins D) X.xe s
noncomputable def PSs (X : Cx) (st : List Stmt) (t : TS) : Prop :=
  ∀ (pins : List (Addr × Obj)) (s : Shared) (σ : St) (H : Hp) (D : Ends), Inv X pins σ H s → t D σ H → wpAny (model X.prog X.w) X.A (execs st X.env) (SP X pins D) X.xe s
theorem thn {α : Type} {t : Sem α} {Q Q' : α → Shared → Prop} {M : Model} {A : Around} {E : Value → Shared → Prop} {s : Shared} (h : wpAny M A t Q E s) (hQ : ∀ a s, Q a s → Q' a s) : wpAny M A t Q' E s := wpAny_mono h hQ fun _ _ x => x
end L2

namespace L2
open PySem PySem.Spec PyProof.Rows
section
variable {X : Cx}

noncomputable def tVar (i : Nat) : TE := fun σ H Q => ∃ v, σ[i]? = some (some v) ∧ Q v H
noncomputable abbrev tC (v : V) : TE := fun _ H Q => Q v H
theorem pe_var {i : Nat} {x : Str} {pos : Pos} (hN : X.N[i]? = some x) (hv : Vis X.env.scope x) (hd : (x == ("__debug__" : Str)) = false := by decide) (hcd : (x == ("__classdict__" : Str)) = false := by decide) : PE X (.Name x pos) (tVar i) := by
  intro pins s σ H Q I h
  obtain ⟨v, e, h⟩ := h
  obtain ⟨m, hn, hl⟩ := I.loc
  obtain ⟨u, r, l⟩ := hl i x v hN e hv
  have fin : EP X pins σ Q u s := ⟨v, H, I, r, h⟩
  rcases l with ⟨hk, hm⟩ | ⟨hk, c, hc, hcell⟩
  · exact wpAny_Name (wpAny_loadName_local I.ok.kind hk hn hm fin) hd
  · rcases hk with hk | hk
    · exact wpAny_Name (wpAny_loadName_cell I.ok.kind hk hc hcell fin) hd
    · exact wpAny_Name (wpAny_loadName_free I.ok.kind hk hc hcell fin hcd) hd
theorem pe_int {i j pos} : PE X (.Constant (.int i) j pos) (tC (.int i)) := fun _ _ _ H _ I h => wpAny_Constant_int ⟨.int i, H, I.tok _, ⟨_, rfl⟩, h⟩
theorem pe_bl {b j pos} : PE X (.Constant (.bool b) j pos) (tC (.bl b)) := fun _ _ _ H _ I h => Constant_bool ⟨.bl b, H, I, rfl, h⟩
theorem pe_non {j pos} : PE X (.Constant .none j pos) (tC .non) := fun _ _ _ H _ I h => Constant_none ⟨.non, H, I, rfl, h⟩
theorem pe_str {x j pos} : PE X (.Constant (.str x) j pos) (tC (.str x)) := fun _ _ _ H _ I h => Calls.Constant_str ⟨.str x, H, I.tok _, ⟨_, rfl⟩, h⟩

noncomputable def Gl (X : Cx) (x : Str) : Prop := X.env.kindOf x = some .globalImplicit
theorem ld_glob {E : Value → Shared → Prop} {pins : List (Addr × Obj)} {s : Shared} {σ : St} {H : Hp} {x : Str} {u : Value} {pos : Pos} {Q : Value → Shared → Prop} (I : Inv X pins σ H s) (hg : Gl X x) (hm : X.mg x = some u) (h : Q u s)
    (hd : (x == ("__debug__" : Str)) = false := by decide) : wpAny (model X.prog X.w) X.A (eval (.Name x pos) X.env) Q E s :=
  Calls.Name_function_global I.ok.kind hg (Calls.loadGlobal_global (by rw [I.ok.glob]; exact I.mod.glob.keeps I.bk) hm h) hd
theorem ld_blt {E : Value → Shared → Prop} {pins : List (Addr × Obj)} {s : Shared} {σ : St} {H : Hp} {x : Str} {u : Value} {pos : Pos} {Q : Value → Shared → Prop} (I : Inv X pins σ H s) (hg : Gl X x) (hm : X.mg x = none) (hv : bootBuiltins x = some u) (h : Q u s)
    (hn : x ≠ "__name__" := by decide) (hd : (x == ("__debug__" : Str)) = false := by decide) : wpAny (model X.prog X.w) X.A (eval (.Name x pos) X.env) Q E s := by
  obtain ⟨mb, h1, h2⟩ := I.mod.blt
  exact Calls.Name_function_global I.ok.kind hg (Calls.loadGlobal_builtin (by rw [I.ok.glob]; exact I.mod.glob.keeps I.bk) hm (by rw [I.ok.blt]; exact h1.keeps I.bk) ((h2 x hn).trans hv) h) hd
theorem pe_glob {x : Str} {v : V} {u : Value} {pos : Pos} (hg : Gl X x) (hm : X.mg x = some u) (r : RelV v u) (hd : (x == ("__debug__" : Str)) = false := by decide) : PE X (.Name x pos) (tC v) :=
  fun _ _ _ H _ I h => ld_glob I hg hm ⟨v, H, I, r, h⟩ hd
theorem pe_bltn {x : Str} {v : V} {u : Value} {pos : Pos} (hg : Gl X x) (hm : X.mg x = none) (hv : bootBuiltins x = some u) (r : RelV v u) (hn : x ≠ "__name__" := by decide) (hd : (x == ("__debug__" : Str)) = false := by decide) : PE X (.Name x pos) (tC v) :=
  fun _ _ _ H _ I h => ld_blt I hg hm hv ⟨v, H, I, r, h⟩ hn hd

variable {a b : Expr} {ta tb : TE} {pos : Pos}
noncomputable def tB (t : TE) : TT := fun σ H Q => t σ H fun x H1 => ∃ c, x = .bl c ∧ Q c H1
theorem pt_val {e : Expr} {t : TE} (h : PE X e t) (he : ∀ whole, isTrue e X.env whole = (do let v ← whole; standAt e.pos; holding [v] (truthy v)) := by intro _; rfl) : PT X e (tB t) := by
  intro pins s σ H Q I hw
  refine isTrue_plain (thn (h pins s σ H _ I hw) fun v s1 ⟨x, H1, I1, r1, q1⟩ => ?_) (he _)
  obtain ⟨d, rfl, q⟩ := q1
  cases r1
  exact wpAny_truthy_bool ⟨H1, I1, q⟩

variable {tA tB' : TT} {rest : List Expr}
noncomputable def tAnd (t u : TT) : TT := fun σ H Q => t σ H fun c H1 => if c = true then u σ H1 Q else Q false H1
noncomputable def tOr (t u : TT) : TT := fun σ H Q => t σ H fun c H1 => if c = true then Q true H1 else u σ H1 Q
noncomputable def tNot (t : TT) : TT := fun σ H Q => t σ H fun c H1 => Q (!c) H1
theorem pw_and1 (ha : PT X a tA) : PW X (.BoolOp .And [a] pos) tA := by
  intro wh pins s σ H Q I h
  refine isTrue_and (thn (ha pins s σ H Q I h) fun c s1 e => ?_)
  cases c with
  | true => exact isTrue_and_nil e
  | false => exact e
theorem pw_or1 (ha : PT X a tA) : PW X (.BoolOp .Or [a] pos) tA := by
  intro wh pins s σ H Q I h
  refine isTrue_or (thn (ha pins s σ H Q I h) fun c s1 e => ?_)
  cases c with
  | false => exact isTrue_or_nil e
  | true => exact e
theorem pw_and (ha : PT X a tA) (hb : PW X (.BoolOp .And (b :: rest) pos) tB') : PW X (.BoolOp .And (a :: b :: rest) pos) (tAnd tA tB') := by
  intro wh pins s σ H Q I h
  refine isTrue_and (thn (ha pins s σ H _ I h) fun c s1 ⟨H1, I1, q1⟩ => ?_)
  cases c with
  | true => exact hb wh pins s1 σ H1 Q I1 q1
  | false => exact ⟨H1, I1, q1⟩
theorem pw_or (ha : PT X a tA) (hb : PW X (.BoolOp .Or (b :: rest) pos) tB') : PW X (.BoolOp .Or (a :: b :: rest) pos) (tOr tA tB') := by
  intro wh pins s σ H Q I h
  refine isTrue_or (thn (ha pins s σ H _ I h) fun c s1 ⟨H1, I1, q1⟩ => ?_)
  cases c with
  | true => exact ⟨H1, I1, q1⟩
  | false => exact hb wh pins s1 σ H1 Q I1 q1
theorem pt_not (ha : PT X a tA) : PT X (.UnaryOp .Not a pos) (tNot tA) := by
  intro pins s σ H Q I h
  exact isTrue_not (ha pins s σ H (fun c H1 => Q (!c) H1) I h)
noncomputable def tAndV (ta tb : TE) : TE := fun σ H Q => ta σ H fun x H1 => ∃ c, x = .bl c ∧ if c = true then tb σ H1 Q else Q (.bl false) H1
noncomputable def tNotV (ta : TE) : TE := fun σ H Q => ta σ H fun x H1 => ∃ c, x = .bl c ∧ Q (.bl (!c)) H1
theorem pe_one {op} {t : TE} (h : PE X a t) : PE X (.BoolOp op [a] pos) t := fun pins s σ H Q I hw => BoolOp_one (h pins s σ H Q I hw)
theorem pe_and (ha : PE X a ta) (hb : PE X (.BoolOp .And (b :: rest) pos) tb) : PE X (.BoolOp .And (a :: b :: rest) pos) (tAndV ta tb) := by
  intro pins s σ H Q I h
  refine BoolOp_and (thn (ha pins s σ H _ I h) fun v s1 ⟨x, H1, I1, r1, q1⟩ => ?_)
  obtain ⟨c, rfl, q1⟩ := q1
  cases r1
  refine wpAny_truthy_bool ?_
  cases c with
  | true => exact hb pins s1 σ H1 Q I1 q1
  | false => exact ⟨.bl false, H1, I1, rfl, q1⟩
theorem pe_not (ha : PE X a ta) : PE X (.UnaryOp .Not a pos) (tNotV ta) := by
  intro pins s σ H Q I h
  refine UnaryOp_ (thn (ha pins s σ H _ I h) fun v s1 ⟨x, H1, I1, r1, q1⟩ => ?_)
  obtain ⟨c, rfl, q1⟩ := q1
  cases r1
  exact not_of (wpAny_truthy_bool ⟨.bl (!c), H1, I1, rfl, q1⟩)
noncomputable def tIf (t : TT) (ta tb : TE) : TE := fun σ H Q => t σ H fun c H1 => if c = true then ta σ H1 Q else tb σ H1 Q
theorem pe_ifExp {c : Expr} (hc : PT X c tA) (ha : PE X a ta) (hb : PE X b tb) : PE X (.IfExp c a b pos) (tIf tA ta tb) := by
  intro pins s σ H Q I h
  refine wpAny_IfExp (thn (hc pins s σ H _ I h) fun d s1 ⟨H1, I1, q1⟩ => ?_)
  cases d with
  | true => exact ha pins s1 σ H1 Q I1 q1
  | false => exact hb pins s1 σ H1 Q I1 q1
end
end L2

namespace L2
open PySem PySem.Spec PyProof.Rows

noncomputable def SqL (K : PySem.W.Frag) (H : Hp) (a : Addr) (xs : List V) : Prop :=
  Rd H a (.lst xs) ∨
    ∃ (o : Obj) (its : Array Value) (n : Nat), K.lookup a = some o ∧ o.cls = .type "list" ∧ o.dict = none ∧ o.data = .seq its n ∧ its.size ≤ sizeLine ∧ Vals xs its.toList
noncomputable def SqT (K : PySem.W.Frag) (H : Hp) (a : Addr) (xs : List V) : Prop :=
  Rd H a (.tup xs) ∨
    ∃ (o : Obj) (its : Array Value) (n : Nat), K.lookup a = some o ∧ o.cls = .type "tuple" ∧ o.data = .seq its n ∧ its.size ≤ sizeLine ∧ Vals xs its.toList
noncomputable def absV : Value → Option V
  | .none => some .non
  | .bool b => some (.bl b)
  | .int i _ => some (.int i)
  | .str x _ => some (.str x)
  | .bytes b _ => some (.byt b)
  | .float b _ => some (.flt b)
  | .ref a => some (.ref a)
  | .type n => some (.ty n)
  | _ => none
theorem RelV.abs {x : V} {u : Value} (r : RelV x u) : absV u = some x := by
  cases x with
  | non => cases r; rfl
  | bl _ => cases r; rfl
  | int _ => obtain ⟨t, rfl⟩ := r; rfl
  | str _ => obtain ⟨t, rfl⟩ := r; rfl
  | byt _ => obtain ⟨t, rfl⟩ := r; rfl
  | flt _ => obtain ⟨t, rfl⟩ := r; rfl
  | ref _ => cases r; rfl
  | ty _ => cases r; rfl
theorem RelV.inj {x y : V} {u : Value} (r : RelV x u) (q : RelV y u) : x = y := Option.some.inj (r.abs.symm.trans q.abs)
theorem Vals.inj : ∀ {xs ys : List V} {us : List Value}, Vals xs us → Vals ys us → xs = ys
  | _, _, _, .nil, .nil => rfl
  | _, _, _, .cons r t, .cons r' t' => by rw [r.inj r', Vals.inj t t']
section
variable {X : Cx} {pins : List (Addr × Obj)} {σ : St} {H : Hp} {s : Shared} {a : Addr} {xs ys : List V}
theorem SqL.of {K : PySem.W.Frag} (h : H a = some (.lst xs)) : SqL K H a xs := .inl (.inl h)
theorem SqT.of {K : PySem.W.Frag} (h : H a = some (.tup xs)) : SqT K H a xs := .inl (.inl h)
theorem Inv.list (I : Inv X pins σ H s) (h : SqL X.K H a xs) : ∃ its : List Value, Vals xs its ∧ PlainL s.heap a its.toArray ∧ xs.length ≤ sizeLine := by
  rcases h with h | ⟨o, its, n, hk, hc, hd, hs, hz, r⟩
  · obtain ⟨z, its, n, r, e⟩ := h.ok I.hok
    exact ⟨its, r, ⟨_, n, e, rfl, rfl, rfl⟩, z⟩
  · refine ⟨its.toList, r, ⟨o, n, I.kIn a o hk, hc, hd, by simpa using hs⟩, ?_⟩
    have e := r.length
    simp only [Array.length_toList] at e
    omega
theorem Inv.tuple (I : Inv X pins σ H s) (h : SqT X.K H a xs) : ∃ its : List Value, Vals xs its ∧ IsTup s.heap a its.toArray ∧ xs.length ≤ sizeLine := by
  rcases h with h | ⟨o, its, n, hk, hc, hs, hz, r⟩
  · obtain ⟨z, its, r, p⟩ := h.ok I.hok
    exact ⟨its, r, p, z⟩
  · refine ⟨its.toList, r, ⟨o, I.kIn a o hk, hc, n, by simpa using hs⟩, ?_⟩
    have e := r.length
    simp only [Array.length_toList] at e
    omega
theorem Inv.list_inj (I : Inv X pins σ H s) (h : SqL X.K H a xs) (h' : SqL X.K H a ys) : xs = ys := by
  obtain ⟨its, r, ⟨o, n, e, _, _, d⟩, _⟩ := I.list h
  obtain ⟨its', r', ⟨o', n', e', _, _, d'⟩, _⟩ := I.list h'
  rw [e] at e'; cases e'
  rw [d] at d'
  injection d' with d1 _
  have : its = its' := by simpa using congrArg Array.toList d1
  subst this
  exact r.inj r'
end

noncomputable abbrev Cx.wish (X : Cx) (E : Value → Shared → Prop) : Cx := { X with xe := E }
noncomputable abbrev Cx.nox (X : Cx) : Cx := X.wish fun _ _ => False
theorem Cx.Ok.wish {X : Cx} (ok : X.Ok) (E : Value → Shared → Prop) : (X.wish E).Ok :=
  ⟨ok.mod, ok.kind, ok.glob, ok.blt, ok.above, ok.inj, ok.has, ok.cab, ok.hd, ok.frames, ok.stk, ok.exf, ok.bs, ok.bsz, ok.noex, ok.exfs, ok.funs, ok.frf⟩
theorem Cx.Ok.unwish {X : Cx} {E : Value → Shared → Prop} (ok : (X.wish E).Ok) : X.Ok :=
  ⟨ok.mod, ok.kind, ok.glob, ok.blt, ok.above, ok.inj, ok.has, ok.cab, ok.hd, ok.frames, ok.stk, ok.exf, ok.bs, ok.bsz, ok.noex, ok.exfs, ok.funs, ok.frf⟩
section
variable {X : Cx} {pins : List (Addr × Obj)} {σ : St} {H : Hp} {s : Shared} {E : Value → Shared → Prop}
theorem Inv.wish (I : Inv X pins σ H s) (E : Value → Shared → Prop) : Inv (X.wish E) pins σ H s := ⟨I.ok.wish E, I.os, I.bare, I.base, I.loc, I.cell, I.free, I.freeC, I.pin, I.hok, I.len⟩
theorem Inv.unwish (I : Inv (X.wish E) pins σ H s) : Inv X pins σ H s := ⟨I.ok.unwish, I.os, I.bare, I.base, I.loc, I.cell, I.free, I.freeC, I.pin, I.hok, I.len⟩
theorem SP.unwish {D : Ends} {f : Flow} {s' : Shared} (h : SP (X.wish E) pins D f s') : SP X pins D f s' := by
  cases f with
  | next => obtain ⟨σ', H', I, q⟩ := h; exact ⟨σ', H', I.unwish, q⟩
  | brk => obtain ⟨σ', H', I, q⟩ := h; exact ⟨σ', H', I.unwish, q⟩
  | cont => obtain ⟨σ', H', I, q⟩ := h; exact ⟨σ', H', I.unwish, q⟩
  | ret u => obtain ⟨v, σ', H', I, r, q⟩ := h; exact ⟨v, σ', H', I.unwish, r, q⟩
theorem PE.nox {e : Expr} {t : TE} (h : PE X.nox e t) : PE X e t := fun pins s σ H Q I hw =>
  wpAny_mono (h pins s σ H Q (I.wish _) hw) (fun _ _ ⟨v, H', I', r, q⟩ => ⟨v, H', I'.unwish, r, q⟩) fun _ _ z => False.elim z
theorem PT.nox {e : Expr} {t : TT} (h : PT X.nox e t) : PT X e t := fun pins s σ H Q I hw =>
  wpAny_mono (h pins s σ H Q (I.wish _) hw) (fun _ _ ⟨H', I', q⟩ => ⟨H', I'.unwish, q⟩) fun _ _ z => False.elim z
theorem PSs.nox {st : List Stmt} {t : TS} (h : PSs X.nox st t) : PSs X st t := fun pins s σ H D I hw =>
  wpAny_mono (h pins s σ H D (I.wish _) hw) (fun _ _ q => q.unwish) fun _ _ z => False.elim z
end

section
variable {X : Cx} {st : Stmt} {rest : List Stmt} {t u : TS} {e : Expr} {te : TE} {pos : Pos}
noncomputable def tNext : TS := fun D σ H => D.nx σ H
noncomputable def tSeq (t u : TS) : TS := fun D σ H => t { D with nx := u D } σ H
theorem pss_nil : PSs X [] tNext := fun _ _ σ H _ I h => wpAny_execs_nil ⟨σ, H, I, h⟩
theorem pss_cons (h1 : PS X st t) (h2 : PSs X rest u) : PSs X (st :: rest) (tSeq t u) := by
  intro pins s σ H D I h
  refine wpAny_execs_cons (thn (h1 pins s σ H { D with nx := u D } I h) fun f s1 q => ?_)
  cases f with
  | next =>
    obtain ⟨σ', H', I', q⟩ := q
    exact h2 pins s1 σ' H' D I' q
  | ret v => exact q
  | brk => exact q
  | cont => exact q
theorem pss_one (h1 : PS X st t) : PSs X [st] t := by
  intro pins s σ H D I h
  refine wpAny_execs_cons (thn (h1 pins s σ H D I h) fun f s1 q => ?_)
  cases f with
  | next => exact wpAny_execs_nil q
  | ret v => exact q
  | brk => exact q
  | cont => exact q
theorem Inv.quiet {pins : List (Addr × Obj)} {σ : St} {H : Hp} {s : Shared} (I : Inv X pins σ H s) : interactive X.env = false := by simp [interactive, I.ok.kind]
noncomputable def tDrop (te : TE) : TS := fun D σ H => te σ H fun _ H1 => D.nx σ H1
theorem ps_expr (he : PE X e te) (hs : swapsWith e none pos.line X.env = pure false := by rfl) : PS X (.Expr e pos) (tDrop te) := by
  intro pins s σ H D I h
  exact wpAny_Expr_any (thn (he pins s σ H _ I h) fun v s1 ⟨x, H1, I1, r1, q1⟩ => ⟨σ, H1, I1, q1⟩) I.quiet hs
noncomputable def tRet (te : TE) : TS := fun D σ H => te σ H D.rt
theorem ps_ret (he : PE X e te) : PS X (.Return (some e) pos) (tRet te) := by
  intro pins s σ H D I h
  exact wpAny_Return_some (thn (he pins s σ H _ I h) fun v s1 ⟨x, H1, I1, r1, q1⟩ => ⟨x, σ, H1, I1, r1, q1⟩)
noncomputable def tIfS (c : TT) (t u : TS) : TS := fun D σ H => c σ H fun b H1 => if b = true then t D σ H1 else u D σ H1
theorem ps_if {c : Expr} {a b : List Stmt} {tc : TT} (hc : PT X c tc) (ha : PSs X a t) (hb : PSs X b u) : PS X (.If c a b pos) (tIfS tc t u) := by
  intro pins s σ H D I h
  refine wpAny_If (thn (hc pins s σ H _ I h) fun d s1 ⟨H1, I1, q1⟩ => ?_)
  cases d with
  | true => exact ha pins s1 σ H1 D I1 q1
  | false => exact hb pins s1 σ H1 D I1 q1
end

noncomputable abbrev TG := V → St → Hp → (St → Hp → Prop) → Prop
noncomputable abbrev TGs := List V → St → Hp → (St → Hp → Prop) → Prop
noncomputable def PG (X : Cx) (target : Expr) (t : TG) : Prop :=
  ∀ (pins : List (Addr × Obj)) (s : Shared) (σ : St) (H : Hp) (v : V) (u : Value) (Q : St → Hp → Prop), Inv X pins σ H s → RelV v u → t v σ H Q →
    wpAny (model X.prog X.w) X.A (assign target X.env u) (fun _ s' => ∃ σ' H', Inv X pins σ' H' s' ∧ Q σ' H') X.xe s
noncomputable def PGs (X : Cx) (ts : List Expr) (t : TGs) : Prop :=
  ∀ (pins : List (Addr × Obj)) (s : Shared) (σ : St) (H : Hp) (vs : List V) (us : List Value) (Q : St → Hp → Prop), Inv X pins σ H s → Vals vs us → t vs σ H Q →
    wpAny (model X.prog X.w) X.A (assignInOrder ((assignEach ts X.env).map (·.2)) us) (fun _ s' => ∃ σ' H', Inv X pins σ' H' s' ∧ Q σ' H') X.xe s
section
variable {X : Cx} {pos : Pos}
noncomputable def gName (i : Nat) : TG := fun v σ H Q => Q (σ.set i (some v)) H
theorem pg_name {i : Nat} {x : Str} (hN : X.N.Nodup) (hi : X.N[i]? = some x) (hx : Loc X.env.scope x) (hf : X.fn x = true ∨ X.env.scope.names.lookup x = some .local := by first | exact .inl rfl | exact .inr rfl | assumption) : PG X (.Name x pos) (gName i) := by
  intro pins s σ H v u Q I r h
  exact wpAny_assign_Name (store_ok I hN hi hx r (fun s' I' => ⟨_, H, I', h⟩) hf)
noncomputable def gNil : TGs := fun vs σ H Q => vs = [] ∧ Q σ H
noncomputable def gCons (t : TG) (u : TGs) : TGs := fun vs σ H Q => ∃ v r, vs = v :: r ∧ t v σ H fun σ' H' => u r σ' H' Q
theorem pgs_nil : PGs X [] gNil := by
  intro pins s σ H vs us Q I r h
  obtain ⟨e, h⟩ := h
  subst e
  cases r
  exact assignInOrder_nil ⟨σ, H, I, h⟩
theorem pgs_cons {e : Expr} {es : List Expr} {t : TG} {u : TGs} (h1 : PG X e t) (h2 : PGs X es u)
    (hs : (assignEach (e :: es) X.env).map (·.2) = assign e X.env :: (assignEach es X.env).map (·.2) := by rfl) : PGs X (e :: es) (gCons t u) := by
  intro pins s σ H vs us Q I r h
  obtain ⟨v, vr, e1, h⟩ := h
  subst e1
  cases r with
  | cons r rr =>
    rw [hs]
    refine assignInOrder_cons (thn (h1 pins s σ H _ _ _ I r h) fun _ s1 ⟨σ1, H1, I1, q1⟩ => ?_)
    exact h2 pins s1 σ1 H1 _ _ Q I1 rr q1
noncomputable def gTup (K : PySem.W.Frag) (n : Nat) (t : TGs) : TG := fun v σ H Q => ∃ a xs, v = .ref a ∧ SqT K H a xs ∧ xs.length = n ∧ t xs σ H Q
theorem pg_tup {es : List Expr} {k : Nat} {t : TGs} {n : Nat} (hc : X.calm = true) (h : PGs X es t)
    (hn : (assignEach es X.env).length = n := by rfl) (hst : (assignEach es X.env).findIdx? (·.1) = none := by rfl) : PG X (.Tuple es k pos) (gTup X.K n t) := by
  intro pins s σ H v u Q I r hw
  obtain ⟨a, xs, e1, hq, hl, hw⟩ := hw
  subst e1
  cases r
  obtain ⟨its, rv, ht, hz⟩ := I.tuple hq
  refine assign_Tuple_tuple (I.ok.hd hc) ht (by simp [hn, ← hl, rv.length]) hst fun h' hx => ?_
  have I1 : Inv X pins σ H { s with heap := h' } := I.kept (t' := s.toks) fun b o e => hx b o (Nat.ne_of_lt (Heap.lt_size e)) e
  exact h pins _ σ H xs _ Q I1 (by simpa using rv) hw
noncomputable def tAsg (te : TE) (g : TG) : TS := fun D σ H => te σ H fun x H1 => g x σ H1 D.nx
theorem ps_asg {tg e : Expr} {te : TE} {g : TG} (he : PE X e te) (hg : PG X tg g) (hs : swapsWithSole [tg] e pos.line X.env = pure false := by rfl) (hw : swappedStores [tg] e X.env = pure none := by rfl)
    (h1 : (assignEach [tg] X.env).map (·.2) = [assign tg X.env] := by rfl) : PS X (.Assign [tg] e pos) (tAsg te g) := by
  intro pins s σ H D I h
  refine wpAny_Assign_stores (thn (he pins s σ H _ I h) fun v s1 ⟨x, H1, I1, r1, q1⟩ => ?_) hs hw
  rw [h1]
  exact thn (hg pins s1 σ H1 x v _ I1 r1 q1) fun _ s2 q => q
theorem ps_set {i : Nat} {x : Str} {e : Expr} {te : TE} {pos' : Pos} (hN : X.N.Nodup) (hi : X.N[i]? = some x) (hx : Loc X.env.scope x) (he : PE X e te) (hs : swapsWith e (some (.Name x pos')) pos.line X.env = pure false := by rfl) (hf : X.fn x = true ∨ X.env.scope.names.lookup x = some .local := by first | exact .inl rfl | exact .inr rfl | assumption) :
    PS X (.Assign [.Name x pos'] e pos) (tAsg te (gName i)) := by
  intro pins s σ H D I h
  refine wpAny_Assign_Name (thn (he pins s σ H _ I h) fun v s1 ⟨y, H1, I1, r1, q1⟩ => ?_) hs
  exact store_ok I1 hN hi hx r1 (fun s2 I2 => ⟨_, H1, I2, q1⟩) hf
end

section
variable {X : Cx} {pos : Pos}
end

structure It where
  go : Nat → Hp → Prop
  yld : Nat → Hp → V → Hp → Prop
  stop : Nat → Hp → Prop
noncomputable def FpOk (X : Cx) (pins : List (Addr × Obj)) (H : Hp) (b : Addr) : Prop :=
  H b = none ∧ b ≠ X.env.locals ∧ b ∉ X.fs ∧ (b ∈ X.ex ∨ X.s₀.heap.objs.size ≤ b) ∧ (∀ x c, X.env.cells.lookup x = some c → c ≠ b) ∧ ∀ p ∈ X.pn ++ pins, p.1 ≠ b
theorem Inv.fpOk {X : Cx} {pins : List (Addr × Obj)} {σ : St} {H H' : Hp} {s : Shared} {b : Addr} (I : Inv X pins σ H s) (hb : s.heap.objs.size ≤ b) (hn : H' b = none) : FpOk X pins H' b := by
  refine ⟨hn, Nat.ne_of_gt (Nat.lt_of_lt_of_le I.lt hb), I.nofs hb, .inr (Nat.le_trans I.sz hb), fun x c e z => ?_, fun p hp z => ?_⟩
  · obtain ⟨v, q⟩ := I.cell x c e
    exact absurd (Nat.lt_of_lt_of_le q.lt (by rw [z]; exact hb)) (Nat.lt_irrefl _)
  · exact absurd (Nat.lt_of_lt_of_le (Heap.lt_size (I.pin p hp).1) (by rw [z]; exact hb)) (Nat.lt_irrefl _)
structure Turn (P : Program) (w : World) (K : PySem.W.Frag) (tg : Expr) (J : It) (fp : List Addr) (it : Addr) (tn : Nat → Heap → Prop) : Prop where
  mem : it ∈ fp
  obj : ∀ i h, tn i h → ∀ b ∈ fp, ∃ o, h.get? b = some o ∧ ∀ v, o.data ≠ .cell v
  keep : ∀ i h h', tn i h → (∀ b ∈ fp, ∀ o, h.get? b = some o → h'.get? b = some o) → tn i h'
  item : ∀ (X : Cx), X.prog = P → X.w = w → X.K = K → X.calm = true → ∀ (i : Nat) (pins : List (Addr × Obj)) (s : Shared) (σ : St) (H : Hp) (E : Value → Shared → Prop), Inv X pins σ H s → (∀ b ∈ fp, FpOk X pins H b) → tn i s.heap → J.go i H →
    wpAny (model P w) X.A (pyNext (.ref it)) (fun r s1 => ∃ u, r = some u ∧
      wpAny (model P w) X.A (letOwnedTupleGo tg (.ref it) u) (fun _ s2 => ∃ x H', Inv X pins σ H' s2 ∧ RelV x u ∧ J.yld i H x H' ∧ tn (i + 1) s2.heap ∧ ∀ b ∈ fp, H' b = none) E s1) E s
  done : ∀ (X : Cx), X.prog = P → X.w = w → X.K = K → X.calm = true → ∀ (i : Nat) (pins : List (Addr × Obj)) (s : Shared) (σ : St) (H : Hp) (E : Value → Shared → Prop), Inv X pins σ H s → (∀ b ∈ fp, FpOk X pins H b) → tn i s.heap → J.stop i H →
    wpAny (model P w) X.A (pyNext (.ref it)) (fun r s1 => r = none ∧ Inv X pins σ H s1) E s
  self : ∀ (A : Around) (i : Nat) (s : Shared) (Q : Value → Shared → Prop) (E : Value → Shared → Prop), tn i s.heap → Q (.ref it) s → wpAny (model P w) A (pyIter (.ref it)) Q E s
noncomputable abbrev TI := St → Hp → (It → Hp → Prop) → Prop
noncomputable def PIE (X : Cx) (pins : List (Addr × Obj)) (σ : St) (tg : Expr) (R : It → Hp → Prop) (itv : Value) (s2 : Shared) : Prop :=
  ∃ (it : Addr) (fp : List Addr) (tn : Nat → Heap → Prop) (J : It) (H' : Hp), itv = .ref it ∧ Inv X pins σ H' s2 ∧ Turn X.prog X.w X.K tg J fp it tn ∧ tn 0 s2.heap ∧ (∀ b ∈ fp, FpOk X pins H' b) ∧ R J H'
noncomputable def PI (X : Cx) (tg iter : Expr) (wi : TI) : Prop :=
  ∀ (pins : List (Addr × Obj)) (s : Shared) (σ : St) (H : Hp) (R : It → Hp → Prop), Inv X pins σ H s → wi σ H R →
    wpAny (model X.prog X.w) X.A (eval iter X.env) (fun v s1 => wpAny (model X.prog X.w) X.A (pyIter v) (PIE X pins σ tg R) X.xe s1) X.xe s

theorem go_of {M : Model} {A : Around} {E : Value → Shared → Prop} {s : Shared} {tg : Expr} {it : Addr} {u : Value} {o : Obj} {n : String} {vs : Array Value} {Q : Unit → Shared → Prop} (ho : s.heap.get? it = some o) (hc : o.cls = .type n) (hd : o.data = .fields vs)
    (hn : ["enumerate", "zip", "dict_itemiterator", "dict_reverseitemiterator", "odict_iterator", "itertools.zip_longest", "itertools.pairwise"].contains n = false) (hQ : Q () s) : wpAny M A (letOwnedTupleGo tg (.ref it) u) Q E s := by
  unfold letOwnedTupleGo
  cases tg <;> first
    | exact wpAny_pure hQ
    | (cases u <;> first
        | exact wpAny_pure hQ
        | (refine wpAny_bind (wpAny_load ho ?_)
           rw [hc, hd]
           show wpAny M A (if (["enumerate", "zip", "dict_itemiterator", "dict_reverseitemiterator", "odict_iterator", "itertools.zip_longest", "itertools.pairwise"].contains n && vs[0]? == some (rawInt _)) = true then _ else _) Q E s
           rw [if_neg (by intro h; rw [hn, Bool.false_and] at h; cases h)]
           exact wpAny_pure hQ))

noncomputable def Itl (K : PySem.W.Frag) (a : Addr) : It :=
  ⟨fun i H => ∃ xs x, SqL K H a xs ∧ xs[i]? = some x, fun i H x H' => H' = H ∧ ∀ xs, SqL K H a xs → xs[i]? = some x, fun i H => ∃ xs, SqL K H a xs ∧ xs.length ≤ i⟩
noncomputable def Itr (lo : Int) (n : Nat) : It := ⟨fun i _ => i < n, fun i H x H' => H' = H ∧ x = .int (lo + i), fun i _ => n ≤ i⟩
theorem turn_list {P : Program} {w : World} {K : PySem.W.Frag} {tg : Expr} (a it : Addr) : Turn P w K tg (Itl K a) [it] it (fun i h => h.IsListIter it a i) where
  mem := by simp
  obj := fun i h st b hb => by
    have e : b = it := by simpa using hb
    subst e
    obtain ⟨o, e, c, d⟩ := st
    exact ⟨o, e, fun v z => by rw [d] at z; cases z⟩
  keep := fun i h h' st k => st.at fun o e => k it (by simp) o e
  item := by
    intro X hP hw hK hc i pins s σ H E I hf st hg
    subst hP hw hK
    obtain ⟨xs, x, hq, hx⟩ := hg
    obtain ⟨its, rv, p, hz⟩ := I.list hq
    obtain ⟨u, hu, ru⟩ := rv.get hx
    obtain ⟨f0, f1, f2, f3, f4, f5⟩ := hf it (by simp)
    refine wpAny_pyNext_list_item st p.isList (x := u) (by simpa using hu) fun h' st' sb => ?_
    have I1 : Inv X pins σ H { s with heap := h' } := I.turned (t' := s.toks) (fun b o hb e => (sb.2 b hb).trans e) f0 f1 f3 f4 f5
    obtain ⟨o, e, c, d⟩ := id st'
    exact ⟨u, rfl, go_of (s := { s with heap := h' }) e c d (by decide) ⟨x, H, I1, ru, ⟨rfl, fun ys hy => by rw [I.list_inj hy hq]; exact hx⟩, st', fun b hb => (hf b hb).1⟩⟩
  done := by
    intro X hP hw hK hc i pins s σ H E I hf st hg
    subst hP hw hK
    obtain ⟨xs, hq, hx⟩ := hg
    obtain ⟨its, rv, p, hz⟩ := I.list hq
    obtain ⟨f0, f1, f2, f3, f4, f5⟩ := hf it (by simp)
    have hl := rv.length
    exact wpAny_pyNext_list_end (I.ok.hd hc) st p.isList (by simp; omega) fun h' eb => ⟨rfl, I.turned (t' := s.toks) (fun b o hb e => eb b o hb e) f0 f1 f3 f4 f5⟩
  self := fun _ _ _ _ _ st h => wpAny_pyIter_listiter st h
theorem turn_range {P : Program} {w : World} {K : PySem.W.Frag} {tg : Expr} (it : Addr) (lo : Int) (n : Nat) : Turn P w K tg (Itr lo n) [it] it (fun i h => IsRangeIter h it (lo + (i : Nat) * 1) ((n : Int) - (i : Nat)) 1) where
  mem := by simp
  obj := fun i h st b hb => by
    have e : b = it := by simpa using hb
    subst e
    exact ⟨_, st, fun v z => by
      have z' : Data.fields _ = Data.cell v := z
      cases z'⟩
  keep := fun i h h' st k => k it (by simp) _ st
  item := by
    intro X hP hw hK hc i pins s σ H E I hf st hg
    subst hP hw hK
    obtain ⟨f0, f1, f2, f3, f4, f5⟩ := hf it (by simp)
    have W := Walks.range (prog := X.prog) (w := X.w) (I.ok.hd hc) it lo 1 n
    refine W.item i s _ _ hg st fun v h' tk hv st' kk => ?_
    obtain ⟨t, rfl⟩ := hv
    have I1 : Inv X pins σ H { s with heap := h', toks := tk } := I.turned (fun b o hb e => kk b o (by simpa using hb) e) f0 f1 f3 f4 f5
    refine ⟨_, rfl, go_of (s := { s with heap := h', toks := tk }) (n := "range_iterator") st' rfl rfl (by decide) ⟨.int (lo + i), H, I1, ⟨t, ?_⟩, ⟨rfl, rfl⟩, st', fun b hb => (hf b hb).1⟩⟩
    rw [Int.mul_one]
  done := by
    intro X hP hw hK hc i pins s σ H E I hf st hg
    subst hP hw hK
    obtain ⟨f0, f1, f2, f3, f4, f5⟩ := hf it (by simp)
    exact wpAny_pyNext_range_end (I.ok.hd hc) st (by have : n ≤ i := hg; omega) fun h' eb => ⟨rfl, I.turned (t' := s.toks) (fun b o hb e => eb b o hb e) f0 f1 f3 f4 f5⟩
  self := fun _ _ _ _ _ st h => wpAny_pyIter_rangeiter st h
end L2

namespace L2
open PySem PySem.Spec PyProof.Rows
section
variable {X : Cx} {tg : Expr}
noncomputable def iList (K : PySem.W.Frag) (tl : TE) : TI := fun σ H R => tl σ H fun x H1 => ∃ a, x = .ref a ∧ (∃ xs, SqL K H1 a xs) ∧ R (Itl K a) H1
theorem pi_list {l : Expr} {tl : TE} (hl : PE X l tl) : PI X tg l (iList X.K tl) := by
  intro pins s σ H R I h
  refine thn (hl pins s σ H _ I h) fun v s1 ⟨x, H1, I1, r1, q1⟩ => ?_
  obtain ⟨a, e, ⟨xs, hq⟩, q⟩ := q1
  subst e
  cases r1
  obtain ⟨its, rv, p, hz⟩ := I1.list hq
  refine wpAny_pyIter_list p.isList ?_
  refine ⟨s1.heap.objs.size, [s1.heap.objs.size], _, _, H1, rfl, I1.kept (t' := s1.toks) fun b o e => Heap.get?_push_of_some _ e, turn_list a _, ⟨_, Heap.get?_push_size _ rfl, rfl, rfl⟩, fun b hb => ?_, q⟩
  have e : b = s1.heap.objs.size := by simpa using hb
  subst e
  exact I1.fpOk (Nat.le_refl _) (I1.hok.fresh (Nat.le_refl _))
theorem range_it {pins : List (Addr × Obj)} {σ : St} {H : Hp} {s : Shared} {R : It → Hp → Prop} {E : Value → Shared → Prop} {lo hi : Int} {t u v : Tok} {tk : Nat} (I : Inv X pins σ H s) (h1 : -(2 ^ 62) ≤ lo) (h2 : lo < 2 ^ 62) (h3 : -(2 ^ 62) ≤ hi) (h4 : hi < 2 ^ 62)
    (q : R (Itr lo (hi - lo).toNat) H) : wpAny (model X.prog X.w) X.A (pyIter (.ref s.heap.objs.size)) (PIE X pins σ tg R) E { s with heap := s.heap.push { cls := .type "range", data := .fields #[.int lo t, .int hi u, .int 1 v] }, toks := tk } := by
  refine wpAny_pyIter_range (IsRange.new ..) (small_one h1 h2 h3 h4) ?_
  have I1 : Inv X pins σ H { s with heap := s.heap.push { cls := .type "range", data := .fields #[.int lo t, .int hi u, .int 1 v] }, toks := tk } := I.kept fun b o e => Heap.get?_push_of_some _ e
  refine ⟨(s.heap.push { cls := .type "range", data := .fields #[.int lo t, .int hi u, .int 1 v] }).objs.size, [(s.heap.push { cls := .type "range", data := .fields #[.int lo t, .int hi u, .int 1 v] }).objs.size], _, _, H, rfl,
    I1.kept (t' := tk) fun b o e => Heap.get?_push_of_some _ e, turn_range _ lo (hi - lo).toNat, ?_, fun b hb => ?_, q⟩
  · have e1 : lo + ((0 : Nat) : Int) * 1 = lo := by simp
    have e2 : (((hi - lo).toNat : Nat) : Int) - ((0 : Nat) : Int) = Builtin.Range.rangeSize lo hi 1 := by rw [rangeSize_one]; split <;> omega
    show IsRangeIter _ _ (lo + ((0 : Nat) : Int) * 1) ((((hi - lo).toNat : Nat) : Int) - ((0 : Nat) : Int)) 1
    rw [e1, e2]
    exact Heap.get?_push_size _ rfl
  · have e : b = (s.heap.push { cls := .type "range", data := .fields #[.int lo t, .int hi u, .int 1 v] }).objs.size := by simpa using hb
    subst e
    exact I1.fpOk (Nat.le_refl _) (I1.hok.fresh (Nat.le_refl _))
noncomputable def iRng2 (ta : TA) : TI := fun σ H R => ta σ H fun vs H1 => ∃ i j : Int, vs = [.int i, .int j] ∧ (-(2 ^ 62) ≤ i ∧ i < 2 ^ 62 ∧ -(2 ^ 62) ≤ j ∧ j < 2 ^ 62) ∧ R (Itr i (j - i).toNat) H1
theorem pi_range2 {a b : Expr} {ta : TA} {p pos : Pos} (hg : Gl X "range") (hm : X.mg "range" = none) (ha : PA X [a, b] ta) (hs : starEach [a, b] X.env = [(false, eval a X.env), (false, eval b X.env)] := by rfl) (hs2 : starEach [b] X.env = [(false, eval b X.env)] := by rfl) :
    PI X tg (.Call (.Name "range" p) [a, b] [] pos) (iRng2 ta) := by
  intro pins s σ H R I h
  refine Call_ (ld_blt I hg hm boot_range (PyProof.Rows.callWith_type1 (thn (ha pos pins s σ H _ I h) fun us s1 ⟨vs, H1, I1, r1, q1⟩ => ?_) (by rw [hs, hs2]) (by rw [hs2]; rfl)))
  obtain ⟨i, j, e, ⟨q1, q2, q3, q4⟩, q⟩ := q1
  subst e
  cases r1 with
  | cons r rr =>
    cases rr with
    | cons r' rr =>
      cases rr
      obtain ⟨t, rfl⟩ := r
      obtain ⟨t', rfl⟩ := r'
      exact call_range_2 (range_it I1 q1 q2 q3 q4 q)

noncomputable def tFor (wi : TI) (g : TG) (tb : TS) : TS := fun D σ H => wi σ H fun J H1 => ∃ W : Nat → Nat → St → Hp → Prop, (∃ m, W 0 m σ H1) ∧ ∀ i m σ H, W i m σ H →
  (J.stop i H ∧ D.nx σ H) ∨ (J.go i H ∧ ∃ N : St → Hp → Prop, (∀ σ' H', N σ' H' → ∃ m', m' < m ∧ W (i + 1) m' σ' H') ∧ ∀ x H', J.yld i H x H' → g x σ H' fun σ2 H2 => tb { D with nx := N, ct := N, bk := D.nx } σ2 H2)
noncomputable def pinsAt (fp : List Addr) (h : Heap) : List (Addr × Obj) := fp.filterMap fun b => (h.get? b).map fun o => (b, o)
theorem mem_pinsAt {fp : List Addr} {h : Heap} {b : Addr} {o : Obj} (hb : b ∈ fp) (e : h.get? b = some o) : (b, o) ∈ pinsAt fp h := List.mem_filterMap.mpr ⟨b, hb, by rw [e]; rfl⟩
theorem of_pinsAt {fp : List Addr} {h : Heap} {p : Addr × Obj} (hp : p ∈ pinsAt fp h) : p.1 ∈ fp ∧ h.get? p.1 = some p.2 := by
  obtain ⟨b, hb, e⟩ := List.mem_filterMap.mp hp
  cases q : h.get? b with
  | none => rw [q] at e; cases e
  | some o =>
    rw [q] at e
    have e' : (b, o) = p := Option.some.inj e
    subst e'
    exact ⟨hb, q⟩
theorem Inv.pinned {pins : List (Addr × Obj)} {σ : St} {H : Hp} {s : Shared} {fp : List Addr} (I : Inv X pins σ H s) (hf : ∀ b ∈ fp, FpOk X pins H b) (ho : ∀ b ∈ fp, ∃ o, s.heap.get? b = some o ∧ ∀ v, o.data ≠ .cell v) : Inv X (pins ++ pinsAt fp s.heap) σ H s :=
  I.pins_of fun p hp => (List.mem_append.mp hp).elim (fun z => I.pin p (List.mem_append_right _ z)) fun z => by
    obtain ⟨hb, e⟩ := of_pinsAt z
    obtain ⟨f0, f1, f2, _⟩ := hf p.1 hb
    obtain ⟨o, e', d⟩ := ho p.1 hb
    rw [e] at e'; cases e'
    exact ⟨e, f0, f1, f2, d⟩
theorem Inv.unpinned {pins pl : List (Addr × Obj)} {σ : St} {H : Hp} {s : Shared} (I : Inv X (pins ++ pl) σ H s) : Inv X pins σ H s := I.pins_of fun p hp => I.pin p (List.mem_append_right _ (List.mem_append_left _ hp))
theorem ps_for {iter : Expr} {body : List Stmt} {wi : TI} {g : TG} {tb : TS} {pos : Pos} (hp : PassesOwn (model X.prog X.w) X.A X.env X.xe) (hc : X.calm = true) (hi : PI X tg iter wi) (hg : PG X tg g) (hb : PSs X body tb)
    (hs : ∀ x, foldedSetIterable iter X.env x = pure x := by intro _; rfl) : PS X (.For tg iter body [] pos) (tFor wi g tb) := by
  intro pins s σ H D I h
  refine wpAny_For (thn (hi pins s σ H _ I h) fun v s1 h1 => thn h1 fun itv s2 h2 => ?_) hs
  obtain ⟨it, fp, tn, J, H2, e, I2, T, st2, f2, W, ⟨m0, w0⟩, turn⟩ := h2
  subst e
  -- what stays true of the iterator's objects through the loop
  have stat : ∀ {H' : Hp}, (∀ b ∈ fp, H' b = none) → ∀ b ∈ fp, FpOk X pins H' b := fun hn b hb => ⟨hn b hb, (f2 b hb).2⟩
  refine codeAny_forLoop_any (fun n s' => ∃ i σ' H', Inv X pins σ' H' s' ∧ tn i s'.heap ∧ (∀ b ∈ fp, H' b = none) ∧ W i n σ' H') ?_ m0 ⟨0, σ, H2, I2, st2, fun b hb => (f2 b hb).1, w0⟩
  rintro n s3 ⟨i, σ3, H3, I3, st3, fr3, w3⟩
  rcases turn i n σ3 H3 w3 with ⟨stop, qn⟩ | ⟨go, N, hN, step⟩
  · refine wpAny_passesOwn hp (thn (T.done X rfl rfl rfl hc i pins s3 σ3 H3 X.xe I3 (stat fr3) st3 stop) fun r s4 ⟨hr, I4⟩ => ?_)
    subst hr
    exact wpAny_execs_nil ⟨σ3, H3, I4, qn⟩
  · refine wpAny_passesOwn hp (thn (T.item X rfl rfl rfl hc i pins s3 σ3 H3 X.xe I3 (stat fr3) st3 go) fun r s4 ⟨u, hr, h4⟩ => ?_)
    subst hr
    refine wpAny_passesOwn hp (thn h4 fun _ s5 ⟨x, H5, I5, r5, y5, st5, fr5⟩ => ?_)
    have I5' := I5.pinned (stat fr5) (T.obj _ _ st5)
    refine wpAny_passesOwn hp (thn (hg _ s5 σ3 H5 x u _ I5' r5 (step x H5 y5)) fun _ s6 ⟨σ6, H6, I6, q6⟩ => ?_)
    refine wpAny_passesOwn hp (thn (hb _ s6 σ6 H6 _ I6 q6) fun f s7 q7 => ?_)
    have again : ∀ {σ7 : St} {H7 : Hp}, Inv X (pins ++ pinsAt fp s5.heap) σ7 H7 s7 → N σ7 H7 → ∃ m, m < n ∧ ∃ i σ' H', Inv X pins σ' H' s7 ∧ tn i s7.heap ∧ (∀ b ∈ fp, H' b = none) ∧ W i m σ' H' := fun {σ7 H7} I7 n7 => by
      obtain ⟨m', hm, w7⟩ := hN σ7 H7 n7
      refine ⟨m', hm, i + 1, σ7, H7, I7.unpinned, T.keep _ _ _ st5 fun b hb o e => (I7.pin (b, o) (List.mem_append_right _ (List.mem_append_right _ (mem_pinsAt hb e)))).1, fun b hb => ?_, w7⟩
      obtain ⟨o, e, d⟩ := T.obj _ _ st5 b hb
      exact (I7.pin (b, o) (List.mem_append_right _ (List.mem_append_right _ (mem_pinsAt hb e)))).2.1
    cases f with
    | next => obtain ⟨σ7, H7, I7, n7⟩ := q7; exact again I7 n7
    | cont => obtain ⟨σ7, H7, I7, n7⟩ := q7; exact again I7 n7
    | brk => obtain ⟨σ7, H7, I7, q7⟩ := q7; exact ⟨σ7, H7, I7.unpinned, q7⟩
    | ret v => obtain ⟨x7, σ7, H7, I7, r7, q7⟩ := q7; exact ⟨x7, σ7, H7, I7.unpinned, r7, q7⟩
end

theorem for_list {K : PySem.W.Frag} {a : Addr} {xs : List V} {g : TG} {tb : TS} {D : Ends} {σ : St} {H : Hp} (Pv : Nat → St → Hp → Prop) (h0 : Pv 0 σ H) (hl : ∀ i σ H, i ≤ xs.length → Pv i σ H → SqL K H a xs)
    (hs : ∀ i x σ H, xs[i]? = some x → Pv i σ H → g x σ H fun σ2 H2 => tb { D with nx := Pv (i + 1), ct := Pv (i + 1), bk := D.nx } σ2 H2) (hd : ∀ σ H, Pv xs.length σ H → D.nx σ H) :
    ∃ W : Nat → Nat → St → Hp → Prop, (∃ m, W 0 m σ H) ∧ ∀ i m σ H, W i m σ H →
      ((Itl K a).stop i H ∧ D.nx σ H) ∨ ((Itl K a).go i H ∧ ∃ N : St → Hp → Prop, (∀ σ' H', N σ' H' → ∃ m', m' < m ∧ W (i + 1) m' σ' H') ∧ ∀ x H', (Itl K a).yld i H x H' → g x σ H' fun σ2 H2 => tb { D with nx := N, ct := N, bk := D.nx } σ2 H2) := by
  refine ⟨fun i m σ H => m = xs.length - i ∧ i ≤ xs.length ∧ Pv i σ H, ⟨xs.length, by simp, Nat.zero_le _, h0⟩, ?_⟩
  rintro i m σ H ⟨rfl, hi, p⟩
  have q := hl i σ H hi p
  by_cases hlt : i < xs.length
  · refine .inr ⟨⟨xs, xs[i], q, by simp [hlt]⟩, Pv (i + 1), fun σ' H' p' => ⟨xs.length - (i + 1), by omega, rfl, hlt, p'⟩, fun x H' y => ?_⟩
    obtain ⟨e, y⟩ := y
    subst e
    exact hs i x σ _ (y xs q) p
  · have e : i = xs.length := by omega
    subst e
    exact .inl ⟨⟨xs, q, Nat.le_refl _⟩, hd σ H p⟩
theorem for_range {lo : Int} {n : Nat} {g : TG} {tb : TS} {D : Ends} {σ : St} {H : Hp} (Pv : Nat → St → Hp → Prop) (h0 : Pv 0 σ H)
    (hs : ∀ i σ H, i < n → Pv i σ H → g (.int (lo + i)) σ H fun σ2 H2 => tb { D with nx := Pv (i + 1), ct := Pv (i + 1), bk := D.nx } σ2 H2) (hd : ∀ σ H, Pv n σ H → D.nx σ H) :
    ∃ W : Nat → Nat → St → Hp → Prop, (∃ m, W 0 m σ H) ∧ ∀ i m σ H, W i m σ H →
      ((Itr lo n).stop i H ∧ D.nx σ H) ∨ ((Itr lo n).go i H ∧ ∃ N : St → Hp → Prop, (∀ σ' H', N σ' H' → ∃ m', m' < m ∧ W (i + 1) m' σ' H') ∧ ∀ x H', (Itr lo n).yld i H x H' → g x σ H' fun σ2 H2 => tb { D with nx := N, ct := N, bk := D.nx } σ2 H2) := by
  refine ⟨fun i m σ H => m = n - i ∧ i ≤ n ∧ Pv i σ H, ⟨n, by simp, Nat.zero_le _, h0⟩, ?_⟩
  rintro i m σ H ⟨rfl, hi, p⟩
  by_cases hlt : i < n
  · refine .inr ⟨hlt, Pv (i + 1), fun σ' H' p' => ⟨n - (i + 1), by omega, rfl, hlt, p'⟩, fun x H' y => ?_⟩
    obtain ⟨e, y⟩ := y
    subst e y
    exact hs i σ _ hlt p
  · have e : i = n := by omega
    subst e
    exact .inl ⟨Nat.le_refl _, hd σ H p⟩
end L2

namespace L2
open PySem PySem.Spec PyProof.Rows

noncomputable abbrev R2 := V → V → Hp → VK → Prop
noncomputable def OpR (X : Cx) (f : Value → Value → Sem Value) (r : R2) : Prop :=
  ∀ (pins : List (Addr × Obj)) (s : Shared) (σ : St) (H : Hp) (x y : V) (v u : Value) (Q : VK), Inv X pins σ H s → RelV x v → RelV y u → r x y H Q →
    wpAny (model X.prog X.w) X.A (f v u) (EP X pins σ Q) X.xe s
noncomputable def UnR (X : Cx) (f : Value → Sem Value) (r : V → Hp → VK → Prop) : Prop :=
  ∀ (pins : List (Addr × Obj)) (s : Shared) (σ : St) (H : Hp) (x : V) (v : Value) (Q : VK), Inv X pins σ H s → RelV x v → r x H Q →
    wpAny (model X.prog X.w) X.A (f v) (EP X pins σ Q) X.xe s
noncomputable def CallR (X : Cx) (f : Value) (r : List V → Hp → VK → Prop) : Prop :=
  ∀ (pins : List (Addr × Obj)) (s : Shared) (σ : St) (H : Hp) (xs : List V) (us : List Value) (Q : VK), Inv X pins σ H s → Vals xs us → r xs H Q →
    wpAny (model X.prog X.w) X.A (call f us) (EP X pins σ Q) X.xe s
noncomputable def tOp (r : R2) (ta tb : TE) : TE := fun σ H Q => ta σ H fun x H1 => tb σ H1 fun y H2 => r x y H2 Q
noncomputable def tUn (r : V → Hp → VK → Prop) (ta : TE) : TE := fun σ H Q => ta σ H fun x H1 => r x H1 Q
noncomputable def rI (C : Int → Int → Prop) (g : Int → Int → V) : R2 := fun x y H Q => ∃ i j, x = .int i ∧ y = .int j ∧ C i j ∧ Q (g i j) H
noncomputable def rI0 (g : Int → Int → V) : R2 := fun x y H Q => ∃ i j, x = .int i ∧ y = .int j ∧ Q (g i j) H
noncomputable def rU (g : Int → V) : V → Hp → VK → Prop := fun x H Q => ∃ i, x = .int i ∧ Q (g i) H

section
variable {X : Cx} {a b c : Expr} {ta tb tc : TE} {pos : Pos}

theorem binT (ha : PE X a ta) (hb : PE X b tb) {pins : List (Addr × Obj)} {s : Shared} {σ : St} {H : Hp} {R : V → V → Hp → Prop} (I : Inv X pins σ H s)
    (h : ta σ H fun x H1 => tb σ H1 fun y H2 => R x y H2) {Q : Value → Shared → Prop} {f : Value → Value → Sem Value}
    (hf : ∀ v u s2 x y H2, Inv X pins σ H2 s2 → RelV x v → RelV y u → R x y H2 → wpAny (model X.prog X.w) X.A (f v u) Q X.xe s2) :
    wpAny (model X.prog X.w) X.A (eval a X.env) (fun v s₁ => wpAny (model X.prog X.w) X.A (eval b X.env) (fun u s₂ => wpAny (model X.prog X.w) X.A (f v u) Q X.xe s₂) X.xe s₁) X.xe s := by
  refine thn (ha pins s σ H _ I h) fun v s1 ⟨x, H1, I1, r1, q1⟩ => ?_
  refine thn (hb pins s1 σ H1 _ I1 q1) fun u s2 ⟨y, H2, I2, r2, q2⟩ => ?_
  exact hf v u s2 x y H2 I2 r1 r2 q2

theorem pe_op {op : Operator} {r : R2} (ho : OpR X (binaryOp op) r) (ha : PE X a ta) (hb : PE X b tb) : PE X (.BinOp a op b pos) (tOp r ta tb) := by
  intro pins s σ H Q I h
  exact wpAny_BinOp (binT ha hb I h fun v u s2 x y H2 I2 rx ry q => ho pins s2 σ H2 x y v u Q I2 rx ry q)
theorem pe_un {op : UnaryOp} {r : V → Hp → VK → Prop} (ho : UnR X (unaryOp op) r) (ha : PE X a ta) : PE X (.UnaryOp op a pos) (tUn r ta) := by
  intro pins s σ H Q I h
  exact UnaryOp_ (thn (ha pins s σ H _ I h) fun v s1 ⟨x, H1, I1, r1, q1⟩ => ho pins s1 σ H1 x v Q I1 r1 q1)
theorem opI {f : Value → Value → Sem Value} {C : Int → Int → Prop} {g : Int → Int → Int}
    (rule : ∀ (i j : Int) (t u : Tok) (s : Shared) (Q : Value → Shared → Prop) (E : Value → Shared → Prop), C i j → Q (.int (g i j) s.toks) { s with toks := s.toks + 1 } → wpAny (model X.prog X.w) X.A (f (.int i t) (.int j u)) Q E s) :
    OpR X f (rI C fun i j => .int (g i j)) := by
  intro pins s σ H x y v u Q I rx ry h
  obtain ⟨i, j, rfl, rfl, hc, q⟩ := h
  obtain ⟨t, rfl⟩ := rx
  obtain ⟨t', rfl⟩ := ry
  exact rule i j t t' s _ _ hc ⟨.int (g i j), H, I.tok _, ⟨_, rfl⟩, q⟩
theorem opI0 {f : Value → Value → Sem Value} {g : Int → Int → Int}
    (rule : ∀ (i j : Int) (t u : Tok) (s : Shared) (Q : Value → Shared → Prop) (E : Value → Shared → Prop), Q (.int (g i j) s.toks) { s with toks := s.toks + 1 } → wpAny (model X.prog X.w) X.A (f (.int i t) (.int j u)) Q E s) :
    OpR X f (rI0 fun i j => .int (g i j)) := by
  intro pins s σ H x y v u Q I rx ry h
  obtain ⟨i, j, rfl, rfl, q⟩ := h
  obtain ⟨t, rfl⟩ := rx
  obtain ⟨t', rfl⟩ := ry
  exact rule i j t t' s _ _ ⟨.int (g i j), H, I.tok _, ⟨_, rfl⟩, q⟩
theorem opB0 {f : Value → Value → Sem Value} {g : Int → Int → Bool}
    (rule : ∀ (i j : Int) (t u : Tok) (s : Shared) (Q : Value → Shared → Prop) (E : Value → Shared → Prop), Q (.bool (g i j)) s → wpAny (model X.prog X.w) X.A (f (.int i t) (.int j u)) Q E s) :
    OpR X f (rI0 fun i j => .bl (g i j)) := by
  intro pins s σ H x y v u Q I rx ry h
  obtain ⟨i, j, rfl, rfl, q⟩ := h
  obtain ⟨t, rfl⟩ := rx
  obtain ⟨t', rfl⟩ := ry
  exact rule i j t t' s _ _ ⟨.bl (g i j), H, I, rfl, q⟩

noncomputable def CPow (i j : Int) : Prop := 0 ≤ j ∧ j ≤ 1000000 ∧ i.natAbs < 2 ^ 64
noncomputable def CMul (i j : Int) : Prop := (-(2 ^ 64) < i ∧ i < 2 ^ 64) ∨ (-(2 ^ 64) < j ∧ j < 2 ^ 64)
theorem CMul.ok {i j : Int} (h : CMul i j) : IntMulOk i j := by
  rcases h with ⟨h1, h2⟩ | ⟨h1, h2⟩
  · exact .of_left (intBits_le_64 h1 h2)
  · exact .of_right (intBits_le_64 h1 h2)
theorem op_add : OpR X (binaryOp .Add) (rI0 fun i j => .int (i + j)) := opI0 fun _ _ _ _ _ _ _ q => add_int q
theorem op_sub : OpR X (binaryOp .Sub) (rI0 fun i j => .int (i - j)) := opI0 fun _ _ _ _ _ _ _ q => sub_int q
theorem op_mul : OpR X (binaryOp .Mult) (rI CMul fun i j => .int (i * j)) := opI fun _ _ _ _ _ _ _ hc q => mul_int q hc.ok
theorem op_mod : OpR X (binaryOp .Mod) (rI (fun _ j => 0 < j) fun i j => .int (i % j)) := opI fun i j _ _ _ _ _ hc q => by
  have h1 : (0 : Int) < j := hc
  exact mod_int' (by omega) (by rw [Int.fmod_eq_emod_of_nonneg i (by omega)]; exact q)
theorem op_pow : OpR X (binaryOp .Pow) (rI CPow fun i j => .int (i ^ j.toNat)) := opI fun _ _ _ _ _ _ _ hc q => pow_int_small hc.1 hc.2.1 hc.2.2 q
theorem unI {f : Value → Sem Value} {g : Int → Int}
    (rule : ∀ (i : Int) (t : Tok) (s : Shared) (Q : Value → Shared → Prop) (E : Value → Shared → Prop), Q (.int (g i) s.toks) { s with toks := s.toks + 1 } → wpAny (model X.prog X.w) X.A (f (.int i t)) Q E s) :
    UnR X f (rU fun i => .int (g i)) := by
  intro pins s σ H x v Q I rx h
  obtain ⟨i, rfl, q⟩ := h
  obtain ⟨t, rfl⟩ := rx
  exact rule i t s _ _ ⟨.int (g i), H, I.tok _, ⟨_, rfl⟩, q⟩
theorem un_neg : UnR X (unaryOp .USub) (rU fun i => .int (-i)) := unI fun _ _ _ _ _ q => neg_int q
end

noncomputable def scal : V → V → Bool
  | .non, .non => true | .non, .int _ => true | .int _, .non => true | .non, .bl _ => true | .bl _, .non => true | .non, .str _ => true | .str _, .non => true
  | .int _, .int _ => true | .bl _, .bl _ => true | .str _, .str _ => true | .byt _, .byt _ => true
  | .int _, .str _ => true | .str _, .int _ => true | .bl _, .str _ => true | .str _, .bl _ => true
  | _, _ => false
noncomputable def rEq : R2 := fun x y H Q => scal x y = true ∧ Q (.bl (decide (x = y))) H
noncomputable def rNe : R2 := fun x y H Q => scal x y = true ∧ Q (.bl (!decide (x = y))) H

theorem dec_int {i j : Int} : decide (V.int i = V.int j) = (i == j) := by
  rw [Bool.eq_iff_iff]
  simp
theorem dec_bl {i j : Bool} : decide (V.bl i = V.bl j) = (i == j) := by
  rw [Bool.eq_iff_iff]
  simp
theorem dec_str {i j : Str} : decide (V.str i = V.str j) = (i == j) := by
  rw [Bool.eq_iff_iff]
  simp
theorem dec_byt {i j : Array UInt8} : decide (V.byt i = V.byt j) = (i.toList == j.toList) := by
  rw [Bool.eq_iff_iff]
  cases i
  cases j
  simp

section
variable {X : Cx} {a b c : Expr} {ta tb tc : TE} {pos : Pos}
theorem fin_bl {pins : List (Addr × Obj)} {σ : St} {H : Hp} {s : Shared} {Q : VK} {k k' : Bool} (I : Inv X pins σ H s) (q : Q (.bl k) H) (e : k = k') : EP X pins σ Q (.bool k') s := by
  subst e
  exact ⟨.bl k, H, I, rfl, q⟩
theorem op_eq : OpR X (compareOp .Eq) rEq := by
  intro pins s σ H x y v u Q I rx ry h
  obtain ⟨hs, q⟩ := h
  cases x with
  | non =>
    cases rx
    cases y with
    | non => cases ry; exact PySem.EqNone.eq_none_none (fin_bl I q (by simp))
    | bl j => cases ry; exact PySem.EqNone.eq_none_bool (fin_bl I q (by simp))
    | int j => obtain ⟨t', rfl⟩ := ry; exact PySem.EqNone.eq_none_int (fin_bl I q (by simp))
    | str j => obtain ⟨t', rfl⟩ := ry; exact PySem.EqNone.eq_none_str (fin_bl I q (by simp))
    | _ => exact absurd (show false = true from hs) Bool.false_ne_true
  | bl i =>
    cases rx
    cases y with
    | non => cases ry; exact PySem.EqNone.eq_bool_none (fin_bl I q (by simp))
    | bl j => cases ry; exact eq_bool (fin_bl I q dec_bl)
    | str j => obtain ⟨t', rfl⟩ := ry; exact PySem.EqMixed.eq_bool_str (fin_bl I q (by simp))
    | _ => exact absurd (show false = true from hs) Bool.false_ne_true
  | int i =>
    obtain ⟨t, rfl⟩ := rx
    cases y with
    | non => cases ry; exact PySem.EqNone.eq_int_none (fin_bl I q (by simp))
    | int j => obtain ⟨t', rfl⟩ := ry; exact eq_int (fin_bl I q dec_int)
    | str j => obtain ⟨t', rfl⟩ := ry; exact PySem.EqMixed.eq_int_str (fin_bl I q (by simp))
    | _ => exact absurd (show false = true from hs) Bool.false_ne_true
  | str i =>
    obtain ⟨t, rfl⟩ := rx
    cases y with
    | non => cases ry; exact PySem.EqNone.eq_str_none (fin_bl I q (by simp))
    | bl j => cases ry; exact PySem.EqMixed.eq_str_bool (fin_bl I q (by simp))
    | int j => obtain ⟨t', rfl⟩ := ry; exact PySem.EqMixed.eq_str_int (fin_bl I q (by simp))
    | str j => obtain ⟨t', rfl⟩ := ry; exact eq_str (fin_bl I q dec_str)
    | _ => exact absurd (show false = true from hs) Bool.false_ne_true
  | byt i =>
    obtain ⟨t, rfl⟩ := rx
    cases y with
    | byt j => obtain ⟨t', rfl⟩ := ry; exact PySem.W.eq_bytes (fin_bl I q dec_byt)
    | _ => exact absurd (show false = true from hs) Bool.false_ne_true
  | _ => cases y <;> exact absurd (show false = true from hs) Bool.false_ne_true
theorem op_ne : OpR X (compareOp .NotEq) rNe := by
  intro pins s σ H x y v u Q I rx ry h
  obtain ⟨hs, q⟩ := h
  cases x with
  | non =>
    cases rx
    cases y with
    | non => cases ry; exact PySem.EqNone.ne_none_none (fin_bl I q (by simp))
    | bl j => cases ry; exact PySem.EqNone.ne_none_bool (fin_bl I q (by simp))
    | int j => obtain ⟨t', rfl⟩ := ry; exact PySem.EqNone.ne_none_int (fin_bl I q (by simp))
    | str j => obtain ⟨t', rfl⟩ := ry; exact PySem.EqNone.ne_none_str (fin_bl I q (by simp))
    | _ => exact absurd (show false = true from hs) Bool.false_ne_true
  | bl i =>
    cases rx
    cases y with
    | non => cases ry; exact PySem.EqNone.ne_bool_none (fin_bl I q (by simp))
    | bl j => cases ry; exact ne_bool (fin_bl I q (congrArg not dec_bl))
    | str j => obtain ⟨t', rfl⟩ := ry; exact PySem.EqMixed.ne_bool_str (fin_bl I q (by simp))
    | _ => exact absurd (show false = true from hs) Bool.false_ne_true
  | int i =>
    obtain ⟨t, rfl⟩ := rx
    cases y with
    | non => cases ry; exact PySem.EqNone.ne_int_none (fin_bl I q (by simp))
    | int j => obtain ⟨t', rfl⟩ := ry; exact ne_int (fin_bl I q (congrArg not dec_int))
    | str j => obtain ⟨t', rfl⟩ := ry; exact PySem.EqMixed.ne_int_str (fin_bl I q (by simp))
    | _ => exact absurd (show false = true from hs) Bool.false_ne_true
  | str i =>
    obtain ⟨t, rfl⟩ := rx
    cases y with
    | non => cases ry; exact PySem.EqNone.ne_str_none (fin_bl I q (by simp))
    | bl j => cases ry; exact PySem.EqMixed.ne_str_bool (fin_bl I q (by simp))
    | int j => obtain ⟨t', rfl⟩ := ry; exact PySem.EqMixed.ne_str_int (fin_bl I q (by simp))
    | str j => obtain ⟨t', rfl⟩ := ry; exact ne_str (fin_bl I q (congrArg not dec_str))
    | _ => exact absurd (show false = true from hs) Bool.false_ne_true
  | byt i =>
    obtain ⟨t, rfl⟩ := rx
    cases y with
    | byt j => obtain ⟨t', rfl⟩ := ry; exact PySem.W.ne_bytes (fin_bl I q (congrArg not dec_byt))
    | _ => exact absurd (show false = true from hs) Bool.false_ne_true
  | _ => cases y <;> exact absurd (show false = true from hs) Bool.false_ne_true

theorem op_lt : OpR X (compareOp .Lt) (rI0 fun i j => .bl (decide (i < j))) := opB0 fun _ _ _ _ _ _ _ q => lt_int q
theorem op_le : OpR X (compareOp .LtE) (rI0 fun i j => .bl (decide (i ≤ j))) := opB0 fun _ _ _ _ _ _ _ q => le_int q
theorem op_ge : OpR X (compareOp .GtE) (rI0 fun i j => .bl (decide (j ≤ i))) := opB0 fun _ _ _ _ _ _ _ q => ge_int q
theorem op_in_str : OpR X (compareOp .In) (fun x y H Q => ∃ i j, x = .str i ∧ y = .str j ∧ Q (.bl (!(Builtin.Str.occurrences j i 0 j.length 1).isEmpty)) H) := by
  intro pins s σ H x y v u Q I rx ry h
  obtain ⟨i, j, rfl, rfl, q⟩ := h
  obtain ⟨t, rfl⟩ := rx
  obtain ⟨t', rfl⟩ := ry
  exact in_str (fin_bl I q rfl)

theorem op_isN : OpR X (compareOp .Is) (fun x y H Q => y = .non ∧ Q (.bl (decide (x = .non))) H) := by
  intro pins s σ H x y v u Q I rx ry h
  obtain ⟨rfl, q⟩ := h
  cases ry
  refine is_none_gen (fin_bl I q ?_)
  cases x <;> first
    | (cases rx; rfl)
    | (obtain ⟨t, rfl⟩ := rx; rfl)
theorem OpR.or {f : Value → Value → Sem Value} {r r' : R2} (h : OpR X f r) (h' : OpR X f r') : OpR X f (fun x y H Q => r x y H Q ∨ r' x y H Q) := by
  intro pins s σ H x y v u Q I rx ry q
  rcases q with q | q
  · exact h pins s σ H x y v u Q I rx ry q
  · exact h' pins s σ H x y v u Q I rx ry q

theorem nomark (b : Expr) {op : CmpOp} (h : op ≠ .In := by decide) (h2 : op ≠ .NotIn := by decide) : behindInMarks op b = false := by
  have e1 : (op == CmpOp.In) = false := by cases op <;> first | rfl | exact absurd rfl h
  have e2 : (op == CmpOp.NotIn) = false := by cases op <;> first | rfl | exact absurd rfl h2
  cases b <;> simp [behindInMarks, e1, e2]
theorem pe_cmpR {op : CmpOp} {r : R2} (ho : OpR X (compareOp op) r) (ha : PE X a ta) (hb : PE X b tb) (hm : behindInMarks op b = false) : PE X (.Compare a [op] [b] pos) (tOp r ta tb) := by
  intro pins s σ H Q I h
  exact wpAny_Compare1 (binT ha hb I h fun v u s2 x y H2 I2 rx ry q => ho pins s2 σ H2 x y v u Q I2 rx ry q) hm
noncomputable def tTest (t : TE) : TT := fun σ H Q => t σ H fun x H' => ∃ k, x = .bl k ∧ Q k H'
theorem pt_cmpR {op : CmpOp} {r : R2} (ho : OpR X (compareOp op) r) (ha : PE X a ta) (hb : PE X b tb) (hm : behindInMarks op b = false) : PT X (.Compare a [op] [b] pos) (tTest (tOp r ta tb)) := by
  intro pins s σ H Q I h
  refine wpAny_isTrue_Compare1 (thn (ha pins s σ H _ I h) fun v s1 ⟨x, H1, I1, r1, q1⟩ => thn (hb pins s1 σ H1 _ I1 q1) fun u s2 ⟨y, H2, I2, r2, q2⟩ =>
    thn (ho pins s2 σ H2 x y v u _ I2 r1 r2 q2) fun c s3 ⟨z, H3, I3, r3, k, e, q3⟩ => ?_) hm
  subst e
  cases r3
  exact wpAny_truthy_bool ⟨H3, I3, q3⟩
noncomputable def tChain (r r' : R2) (ta tb tc : TE) : TE := fun σ H Q => ta σ H fun x H1 => tb σ H1 fun y H2 => r x y H2 fun z H3 => ∃ k, z = .bl k ∧
  (if k = true then tc σ H3 fun w' H4 => r' y w' H4 Q else Q (.bl false) H3)
theorem pt_chain {op op' : CmpOp} {r r' : R2} (ho : OpR X (compareOp op) r) (ho' : OpR X (compareOp op') r') (ha : PE X a ta) (hb : PE X b tb) (hc : PE X c tc)
    (hm : lastMarks [op, op'] [b, c] = false := by with_unfolding_all rfl) : PT X (.Compare a [op, op'] [b, c] pos) (tTest (tChain r r' ta tb tc)) := by
  intro pins s σ H Q I h
  refine isTrue_chain (thn (ha pins s σ H _ I h) fun v s1 ⟨x, H1, I1, r1, q1⟩ => test_link (thn (hb pins s1 σ H1 _ I1 q1) fun u s2 ⟨y, H2, I2, r2, q2⟩ =>
    thn (ho pins s2 σ H2 x y v u _ I2 r1 r2 q2) fun d s3 ⟨z, H3, I3, r3, k, e, q3⟩ => ?_)) hm
  subst e
  cases r3
  refine wpAny_truthy_bool ?_
  cases k with
  | false =>
    obtain ⟨k', e', q'⟩ := q3
    cases e'
    exact ite_ff ⟨H3, I3, q'⟩
  | true =>
    refine ite_tt (test_last (thn (hc pins s3 σ H3 _ I3 q3) fun w' s4 ⟨z', H4, I4, r4, q4⟩ => thn (ho' pins s4 σ H4 y z' u w' _ I4 r2 r4 q4) fun d' s5 ⟨z2, H5, I5, r5, k2, e2, q5⟩ => ?_))
    subst e2
    cases r5
    exact wpAny_truthy_bool ⟨H5, I5, q5⟩

theorem line63 : (sizeLine : Nat) < 2 ^ 63 := by rw [sizeLine_eq]; decide
theorem op_add_str : OpR X (binaryOp .Add) (fun x y H Q => ∃ i j, x = .str i ∧ y = .str j ∧ i.length + j.length ≤ sizeLine ∧ Q (.str (i ++ j)) H) := by
  intro pins s σ H x y v u Q I rx ry h
  obtain ⟨i, j, rfl, rfl, hz, q⟩ := h
  obtain ⟨t, rfl⟩ := rx
  obtain ⟨t', rfl⟩ := ry
  exact add_str (fun t' tk => ⟨.str (i ++ j), H, I.tok _, ⟨_, rfl⟩, q⟩) hz
theorem vals1 {x : V} {us : List Value} (r : Vals [x] us) : ∃ u, us = [u] ∧ RelV x u := by
  cases r with
  | cons r1 r2 => cases r2; exact ⟨_, rfl, r1⟩
theorem vals2 {x y : V} {us : List Value} (r : Vals [x, y] us) : ∃ u w', us = [u, w'] ∧ RelV x u ∧ RelV y w' := by
  cases r with
  | cons r1 r2 =>
    cases r2 with
    | cons r3 r4 => cases r4; exact ⟨_, _, rfl, r1, r3⟩
theorem call_abs : CallR X (.builtin "abs") (fun xs H Q => ∃ i, xs = [.int i] ∧ Q (.int (if i < 0 then -i else i)) H) := by
  intro pins s σ H xs us Q I r h
  obtain ⟨i, rfl, q⟩ := h
  obtain ⟨u, rfl, t, rfl⟩ := vals1 r
  exact call_abs_int fun u tk => ⟨.int (if i < 0 then -i else i), H, I.tok _, ⟨_, rfl⟩, q⟩
theorem call_str_int : CallR X (.type "str") (fun xs H Q => ∃ i, xs = [.int i] ∧ i.natAbs.log2 < 1920 ∧ Q (.str (toString i)) H) := by
  intro pins s σ H xs us Q I r h
  obtain ⟨i, rfl, hz, q⟩ := h
  obtain ⟨u, rfl, t, rfl⟩ := vals1 r
  exact PySem.P.str_of_int hz ⟨.str _, H, I.tok _, ⟨_, rfl⟩, q⟩
end
end L2

namespace L2
open PySem PySem.Spec PyProof.Rows

structure ObjM (h : Heap) (x dx C : Addr) (mA : Str → Option Value) : Prop where
  obj : h.get? x = some (PySem.W.instObj C dx)
  ns : h.Ns1 dx mA
  ne : dx ≠ x

theorem lookIn_ns {h : Heap} {dx : Addr} {mA : Str → Option Value} (n : h.Ns1 dx mA) : ∃ od, h.get? dx = some od ∧ ∀ name, PySem.W.lookIn name od = some (mA name) := by
  obtain ⟨o, es, ep, ho, hd, hk, _, hm⟩ := n
  refine ⟨o, ho, fun name => ?_⟩
  have e := hm name
  unfold nsFind findBy at e
  rw [← Array.find?_toList] at e
  unfold PySem.W.lookIn
  rw [hd]
  dsimp only
  split
  · rename_i y q
    rw [q] at e
    exact congrArg some e
  · rename_i q
    rw [q] at e
    have a : es.toList.any (·.refKey) = false := by
      rw [List.any_eq_false]
      intro y hy
      obtain ⟨z, t, hkey⟩ := hk y (Array.mem_toList_iff.mp hy)
      simp [DictEntry.refKey, hkey]
    have a' : ¬ es.toList.any (·.refKey) = true := by rw [a]; exact Bool.false_ne_true
    rw [if_neg a']
    exact congrArg some e

theorem ObjM.look {h : Heap} {x dx C : Addr} {mA : Str → Option Value} (I : ObjM h x dx C mA) : ∃ od, PySem.W.InstAt h x (PySem.W.instObj C dx) C (some od) ∧ ∀ name, PySem.W.lookIn name od = some (mA name) :=
  let ⟨od, ho, hl⟩ := lookIn_ns I.ns
  ⟨od, ⟨I.obj, rfl, rfl, ho⟩, hl⟩

section
variable {prog : Program} {w : World} {A : Around} {E : Value → Shared → Prop} {s : Shared} {K : PySem.W.Frag} {x dx C f : Addr} {mA : Str → Option Value} {name : Str} {v : Value}

end

theorem RelO.none_of {o : Option Value} (r : RelO none o) : o = none := by
  cases o with
  | none => rfl
  | some u => exact (show False from r).elim
section
variable {P : Program} {w : World} {H H' : Hp} {h h' : Heap} {a C dx : Addr} {fs fs' : List (Str × V)}
theorem ins_get (hok : HOk P w H h) (e : H a = some (.ins C dx fs)) : ∃ mA, ObjM h a dx C mA ∧ (∀ f, RelO (fs.lookup f) (mA f)) ∧ PySem.Within mA (fs.map (·.1)) ∧ fs.length ≤ 1000 ∧ H dx = some (.own a) := by
  obtain ⟨d, z, ne, ob, mA, n, r, q⟩ := (show ObjOk P w H h a (.ins C dx fs) from hok a _ e)
  exact ⟨mA, ⟨ob, n, ne⟩, r, q, z, d⟩
end

structure Cls (K : PySem.W.Frag) (C : Addr) : Prop where
  pg : PySem.W.plainGet K C Str.empty = true
  hd : PySem.W.hasDictIn K C = true
  po : PySem.W.plainOver K C = true
  sa : PySem.W.findIn K (.ref C) "__setattr__" = some (some (.builtin "object.__setattr__"))
theorem Cls.get {K : PySem.W.Frag} {C : Addr} (c : Cls K C) (f : Str) : PySem.W.plainGet K C f = true := c.pg
section
variable {X : Cx} {pins : List (Addr × Obj)} {σ : St} {H : Hp} {s : Shared} {a C dx : Addr} {fs : List (Str × V)} {f : Str} {v : V} {A : Around} {E : Value → Shared → Prop}

theorem Inv.made (I : Inv X pins σ H s) : Inv X pins σ (upd (upd H s.heap.objs.size (.own (s.heap.objs.size + 1))) (s.heap.objs.size + 1) (.ins C s.heap.objs.size []))
    { s with heap := (s.heap.push PySem.W.emptyDict).push (PySem.W.instObj C s.heap.objs.size) } := by
  have e1 : (s.heap.push PySem.W.emptyDict).get? s.heap.objs.size = some PySem.W.emptyDict := Heap.get?_push_size s.heap rfl
  have e2 : ((s.heap.push PySem.W.emptyDict).push (PySem.W.instObj C s.heap.objs.size)).get? (s.heap.objs.size + 1) = some (PySem.W.instObj C s.heap.objs.size) := by
    have := Heap.get?_push_size (s.heap.push PySem.W.emptyDict) (o := PySem.W.instObj C s.heap.objs.size) rfl
    rwa [Heap.size_push] at this
  have e3 : (s.heap.push PySem.W.emptyDict).Ns s.heap.objs.size (fun _ => none) := ⟨PySem.W.emptyDict, #[], _, e1, rfl, (fun e he => absurd he (by simp)), fun _ => rfl⟩
  have I1 := I.laid (a := s.heap.objs.size) (o := .own (s.heap.objs.size + 1)) (h' := s.heap.push PySem.W.emptyDict) (t' := s.toks) (fun b u q => Heap.get?_push_of_some _ q) (Nat.le_refl _) ⟨_, e1⟩
  refine I1.laid (a := s.heap.objs.size + 1) (o := .ins C s.heap.objs.size []) (t' := s.toks) (fun b u q => Heap.get?_push_of_some _ q) (Nat.le_of_eq (Heap.size_push _ _)) ?_
  have ne : s.heap.objs.size ≠ s.heap.objs.size + 1 := Nat.ne_of_lt (Nat.lt_succ_self _)
  refine ⟨by rw [upd_ne ne, upd_same], Nat.zero_le _, ne, e2, fun _ => none, (Heap.Ns1.of_empty e3).at fun o q => Heap.get?_push_of_some _ q, fun _ => True.intro, fun y hy => absurd rfl hy⟩

end

section
variable {X : Cx} {o e value : Expr} {f : Str} {pos pos' tpos : Pos} {ta tv : TE}
end

section
variable {X : Cx} {pins : List (Addr × Obj)} {σ : St} {H : Hp} {s : Shared} {A : Around} {E : Value → Shared → Prop} {Q : Value → Shared → Prop} {c : Value} {b : Bool}
inductive TyOf (K : PySem.W.Frag) (H : Hp) : V → Value → Prop where
  | non : TyOf K H .non (.type "NoneType")
  | bl (x : Bool) : TyOf K H (.bl x) (.type "bool")
  | int (i : Int) : TyOf K H (.int i) (.type "int")
  | str (x : Str) : TyOf K H (.str x) (.type "str")
  | flt (x : UInt64) : TyOf K H (.flt x) (.type "float")
  | lst {a : Addr} {xs : List V} (e : H a = some (.lst xs)) : TyOf K H (.ref a) (.type "list")
  | frz {a : Addr} {o : Obj} {xs : List V} (e : H a = some (.frz o (.lst xs))) : TyOf K H (.ref a) (.type "list")
  | tup {a : Addr} {xs : List V} (e : H a = some (.tup xs)) : TyOf K H (.ref a) (.type "tuple")
  | dK {a : Addr} {kvs : List (Key × V)} (e : H a = some (.dK kvs)) : TyOf K H (.ref a) (.type "dict")
  | dT {a : Addr} {kvs : List (List Key × V)} (e : H a = some (.dT kvs)) : TyOf K H (.ref a) (.type "dict")
  | ins {a C dx : Addr} {fs : List (Str × V)} (e : H a = some (.ins C dx fs)) (cl : Cls K C) (ha : PySem.W.findIn K (.ref C) "__class__" = some (some (.builtin "object.__class__")))
      (hn : PySem.W.specialIn K (.builtin "object.__class__") "__get__" = some (some (.builtin "getset_descriptor.__get__"))) (htk : PySem.W.takesIn K (.builtin "object.__class__") = some true)
      (hm : PySem.W.mroIn K C (.type "object") = some true) : TyOf K H (.ref a) (.ref C)
theorem isinst_ok {x : V} {u t : Value} (I : Inv X pins σ H s) (rx : RelV x u) (ty : TyOf X.K H x t) (e : PySem.W.kitOne X.K t c = some b) (h : ∀ tk, Q (.bool b) { s with toks := tk }) :
    wpAny (model X.prog X.w) A (call (.builtin "isinstance") [u, c]) Q E s := by
  cases ty with
  | non => cases (show u = Value.none from rx); exact PySem.W.kia_one PySem.W.kitx_none I.kIn True.intro e (fun z => nomatch z) h
  | bl y => cases (show u = Value.bool y from rx); exact PySem.W.kia_one PySem.W.kitx_bool I.kIn True.intro e (fun z => nomatch z) h
  | int i => obtain ⟨t, q⟩ := (show ∃ t, u = Value.int i t from rx); cases q; exact PySem.W.kia_one PySem.W.kitx_int I.kIn True.intro e (fun z => nomatch z) h
  | str y => obtain ⟨t, q⟩ := (show ∃ t, u = Value.str y t from rx); cases q; exact PySem.W.kia_one PySem.W.kitx_str I.kIn True.intro e (fun z => nomatch z) h
  | flt y => obtain ⟨t, q⟩ := (show ∃ t, u = Value.float y t from rx); cases q; exact PySem.W.kia_one PySem.W.kitx_float I.kIn True.intro e (fun z => nomatch z) h
  | @lst a xs ea =>
    cases (show u = Value.ref a from rx)
    obtain ⟨_, _, n, _, h1⟩ := (show ObjOk X.prog X.w H s.heap a (.lst xs) from I.hok a _ ea)
    exact PySem.W.kia_one PySem.W.kitx_list I.kIn ⟨_, h1, rfl⟩ e (fun z => nomatch z) h
  | @frz a ob xs ea =>
    cases (show u = Value.ref a from rx)
    obtain ⟨_, _, _, n, _, h1⟩ := (show ObjOk X.prog X.w H s.heap a (.frz ob (.lst xs)) from I.hok a _ ea)
    exact PySem.W.kia_one PySem.W.kitx_list I.kIn ⟨_, h1, rfl⟩ e (fun z => nomatch z) h
  | @tup a xs ea =>
    cases (show u = Value.ref a from rx)
    obtain ⟨_, _, _, p⟩ := (show ObjOk X.prog X.w H s.heap a (.tup xs) from I.hok a _ ea)
    obtain ⟨o, h1, h2, _⟩ := p
    exact PySem.W.kia_one PySem.W.kitx_tuple I.kIn ⟨o, h1, h2⟩ e (fun z => nomatch z) h
  | @dK a kvs ea =>
    cases (show u = Value.ref a from rx)
    obtain ⟨_, _, vs, _, p⟩ := (show ObjOk X.prog X.w H s.heap a (.dK kvs) from I.hok a _ ea)
    obtain ⟨o, es, ep, h1, h2, _⟩ := p
    exact PySem.W.kia_one PySem.W.kitx_dict I.kIn ⟨o, h1, h2.1⟩ e (fun z => nomatch z) h
  | @dT a kvs ea =>
    cases (show u = Value.ref a from rx)
    obtain ⟨_, _, xs, _, o, es, ep, h1, h2, _⟩ := (show ObjOk X.prog X.w H s.heap a (.dT kvs) from I.hok a _ ea)
    exact PySem.W.kia_one PySem.W.kitx_dict I.kIn ⟨o, h1, h2.1⟩ e (fun z => nomatch z) h
  | @ins a C dx fs ea cl ha hn htk hm =>
    cases (show u = Value.ref a from rx)
    obtain ⟨mA, O, _⟩ := ins_get I.hok ea
    obtain ⟨od, J, _⟩ := O.look
    exact PySem.W.kia_one (PySem.W.kitx_own (cl.get _) cl.hd ha hn htk hm) I.kIn J e (fun z => nomatch z) h
end
end L2

namespace L2
open PySem PySem.Spec PyProof.Rows

structure Room (k : Nat) (A : Around) : Prop where
  hd : A.handled = none
  dp : A.depth + 3 * k + 5 < recursionLimit
  un : A.units + 16 * k + 200 < cLine
theorem Room.mono {j k : Nat} {A : Around} (r : Room k A) (h : j ≤ k) : Room j A := ⟨r.hd, by have := r.dp; omega, by have := r.un; omega⟩
theorem Room.deeper {k : Nat} {A : Around} (r : Room (k + 1) A) (env : Env) : Room k (A.deeper env) :=
  ⟨r.hd, by have := r.dp; show A.depth + 1 + 3 * k + 5 < _; omega, by have := r.un; show A.units + 3 + 16 * k + 200 < _; omega⟩
theorem Room.in1 {k : Nat} {A : Around} (r : Room (k + 1) A) : Room k A.in1 :=
  ⟨r.hd, by have := r.dp; show A.depth + 3 * k + 5 < _; omega, by have := r.un; show A.units + 1 + 16 * k + 200 < _; omega⟩
theorem make_depth {A : Around} {C : Addr} {us : List Value} {kw : List (Str × Value)} : (A.under (.builtin "type.__call__" ⟨.ref C :: us, kw⟩)).depth = A.depth + 1 := by
  first | rfl | simp [Around.under, Code.weight, Code.isCreation, Code.isGuard, Code.isCaller, Code.frames, Code.isFrame, guardIds]
theorem make_units {A : Around} {C : Addr} {us : List Value} {kw : List (Str × Value)} : (A.under (.builtin "type.__call__" ⟨.ref C :: us, kw⟩)).units = A.units + 1 := by
  first | rfl | simp [Around.under, Code.cUnits, Code.frames, Code.isFrame]
theorem Room.make {k : Nat} {A : Around} (r : Room (k + 1) A) (C : Addr) (us : List Value) (kw : List (Str × Value)) : Room k (A.under (.builtin "type.__call__" ⟨.ref C :: us, kw⟩)) :=
  ⟨r.hd, by have := r.dp; rw [make_depth]; omega, by have := r.un; rw [make_units]; omega⟩
theorem Room.depth {k : Nat} {A : Around} (r : Room k A) : A.depth < recursionLimit := by have := r.dp; omega
theorem Room.units {k : Nat} {A : Around} (r : Room k A) : A.units + 64 < cLine := by have := r.un; omega
noncomputable def tNil : TA := fun _ H Q => Q [] H
noncomputable def tCons (ta : TE) (tr : TA) : TA := fun σ H Q => ta σ H fun x H1 => tr σ H1 fun xs H2 => Q (x :: xs) H2
section
variable {X : Cx} {e : Expr} {es : List Expr} {te : TE} {t : TA} {pos : Pos}
theorem pa_nil : PA X [] tNil := fun _ _ _ _ H Q I h => Calls.spliced_nil ⟨[], H, I, .nil, h⟩
theorem pa_cons (ha : PE X e te) (hr : PA X es t) (hs : starEach (e :: es) X.env = (false, eval e X.env) :: starEach es X.env := by rfl) : PA X (e :: es) (tCons te t) := by
  intro pos pins s σ H Q I h
  rw [hs]
  show wpAny _ _ (spliced ((false, eval e X.env) :: backTo pos (starEach es X.env))) _ _ s
  refine Calls.spliced_cons (thn (ha pins s σ H _ I h) fun u s1 ⟨x, H1, I1, r1, q1⟩ => ?_)
  exact thn (hr pos pins s1 σ H1 _ I1 q1) fun us s2 ⟨xs, H2, I2, r2, q2⟩ => ⟨x :: xs, H2, I2, .cons r1 r2, q2⟩

noncomputable def tTup (t : TA) : TE := fun σ H Q => t σ H fun xs H1 => xs.length ≤ sizeLine ∧ ∀ p, H1 p = none → Q (.ref p) (upd H1 p (.tup xs))
noncomputable def tLst (t : TA) : TE := fun σ H Q => t σ H fun xs H1 => xs.length ≤ sizeLine ∧ ∀ p, H1 p = none → Q (.ref p) (upd H1 p (.lst xs))
theorem pe_tup {x1} (h : PA X es t) : PE X (.Tuple es x1 pos) (tTup t) := by
  intro pins s σ H Q I hq
  refine wpAny_Tuple_spliced (thn (h pos pins s σ H _ I hq) fun us s1 ⟨xs, H1, I1, r, z, q⟩ => ⟨by rw [← r.length]; exact z, ?_⟩)
  have hf : H1 s1.heap.objs.size = none := I1.hok.fresh (Nat.le_refl _)
  refine ⟨.ref s1.heap.objs.size, upd H1 s1.heap.objs.size (.tup xs), I1.laid (t' := s1.toks) (fun b u e => Heap.get?_push_of_some _ e) (Nat.le_refl _) ?_, rfl, q _ hf⟩
  exact ⟨z, us, r, ⟨_, Heap.get?_push_size _ rfl, rfl, _, rfl⟩⟩
theorem pe_lst (h : PA X es t) : PE X (.List es pos) (tLst t) := by
  intro pins s σ H Q I hq
  refine wpAny_List_spliced (thn (h pos pins s σ H _ I hq) fun us s1 ⟨xs, H1, I1, r, z, q⟩ => ⟨by rw [← r.length]; exact z, ?_⟩)
  have hf : H1 s1.heap.objs.size = none := I1.hok.fresh (Nat.le_refl _)
  refine ⟨.ref s1.heap.objs.size, upd H1 s1.heap.objs.size (.lst xs), I1.laid (t' := s1.toks) (fun b u e => Heap.get?_push_of_some _ e) (Nat.le_refl _) ?_, rfl, q _ hf⟩
  exact ⟨z, us, 0, r, Heap.get?_push_size _ rfl⟩
end

noncomputable abbrev Sp := List V → Hp → VK → XK → Prop
noncomputable abbrev CXT := List Env → Hp → Shared → XK → Value → Shared → Prop

structure Env0 (P : Program) (w : World) (K : PySem.W.Frag) (mg : Str → Option Value) (base : Heap) (A : Around) (outer : List Env) (s : Shared) (H : Hp) : Prop where
  frames : A.frames = some outer
  mod : Mod K mg base
  bs : ∀ b o, base.get? b = some o → s.heap.get? b = some o ∧ H b = none
  bsz : base.objs.size ≤ s.heap.objs.size
  funs : s.heap.FunFrames base outer
  frf : ∀ b ∈ frs outer, H b = none
  hok : HOk P w H s.heap
  bare : AllBare s.gens
noncomputable def CE (outer : List Env) (P : Program) (w : World) (H : Hp) (s : Shared) (Q : VK) (u : Value) (s' : Shared) : Prop :=
  ∃ v H', s'.os = s.os ∧ AllBare s'.gens ∧ Un (frs outer) [] H H' s.heap s'.heap ∧ HOk P w H' s'.heap ∧ RelV v u ∧ Q v H'
noncomputable def CR (CX : CXT) (outer : List Env) (P : Program) (w : World) (H : Hp) (s : Shared) (Q : VK) (E : XK) (r : Result) (s' : Shared) : Prop :=
  match r with
  | .ok (.ret u) => CE outer P w H s Q u s'
  | .ok _ => False
  | .error e => CX outer H s E e s'
structure FnOk (P : Program) (w : World) (K : PySem.W.Frag) (mg : Str → Option Value) (base : Heap) (CX : CXT) (k : Nat) (f : Addr) (fd : FuncData) (ps : List Str) (sp : Sp) : Prop where
  len : ∀ vs H Q E, sp vs H Q E → vs.length = ps.length
  run : ∀ (A : Around) (outer : List Env) (s : Shared) (H : Hp) (args : Args) (us : List Value) (vs : List V) (Q : VK) (E : XK), Room k A → Env0 P w K mg base A outer s H → BindsTo s fd args (ps.zip us) → Vals vs us → sp vs H Q E →
    codeAny (model P w) A (.call (.ref f) args) (CR CX outer P w H s Q E) s
theorem FnOk.mono {P : Program} {w : World} {K : PySem.W.Frag} {mg : Str → Option Value} {base : Heap} {CX : CXT} {j k : Nat} {f : Addr} {fd : FuncData} {ps : List Str} {sp : Sp} (F : FnOk P w K mg base CX j f fd ps sp) (h : j ≤ k) :
    FnOk P w K mg base CX k f fd ps sp := ⟨F.len, fun A outer s H args us vs Q E hr => F.run A outer s H args us vs Q E (hr.mono h)⟩
theorem FnOk.imp {P : Program} {w : World} {K : PySem.W.Frag} {mg : Str → Option Value} {base : Heap} {CX : CXT} {k : Nat} {f : Addr} {fd : FuncData} {ps : List Str} {sp sp' : Sp} (F : FnOk P w K mg base CX k f fd ps sp)
    (h : ∀ vs H Q E, sp' vs H Q E → sp vs H Q E) : FnOk P w K mg base CX k f fd ps sp' :=
  ⟨fun vs H Q E q => F.len vs H Q E (h _ _ _ _ q), fun A outer s H args us vs Q E hr he hb hv hs => F.run A outer s H args us vs Q E hr he hb hv (h _ _ _ _ hs)⟩

theorem Env0.make {P : Program} {w : World} {K : PySem.W.Frag} {mg : Str → Option Value} {base : Heap} {A : Around} {outer : List Env} {s : Shared} {H : Hp} (e : Env0 P w K mg base A outer s H) (C : Addr) (us : List Value) (kw : List (Str × Value)) :
    Env0 P w K mg base (A.under (.builtin "type.__call__" ⟨.ref C :: us, kw⟩)) outer s H := ⟨by first | exact e.frames | (simpa [Around.under, Code.envs, Code.isFrame, pushEnvs] using e.frames), e.mod, e.bs, e.bsz, e.funs, e.frf, e.hok, e.bare⟩
theorem Env0.in1 {P : Program} {w : World} {K : PySem.W.Frag} {mg : Str → Option Value} {base : Heap} {A : Around} {outer : List Env} {s : Shared} {H : Hp} (e : Env0 P w K mg base A outer s H) :
    Env0 P w K mg base A.in1 outer s H := ⟨e.frames, e.mod, e.bs, e.bsz, e.funs, e.frf, e.hok, e.bare⟩

section
variable {X : Cx} {pins : List (Addr × Obj)} {σ : St} {H : Hp} {s s' : Shared}
theorem Inv.env0 (I : Inv X pins σ H s) : Env0 X.prog X.w X.K X.mg X.base X.A X.stack s H :=
  ⟨I.ok.frames, I.ok.mod, I.bs, Nat.le_trans I.ok.bsz I.sz, I.stack, I.stkFree, I.hok, I.bare⟩
theorem Inv.after {Q : VK} {u : Value} (I : Inv X pins σ H s) (h : CE X.stack X.prog X.w H s Q u s') : EP X pins σ Q u s' := by
  obtain ⟨v, H', os, bare, un, hok, r, q⟩ := h
  obtain ⟨hh, g, d, t, os'⟩ := s'
  obtain rfl : os' = s.os := os
  exact ⟨v, H', I.call (h' := hh) (g' := g) (d' := d) (t' := t) (ch := []) un hok bare (fun b z => absurd z (by simp)), r, q⟩
end

noncomputable def tCall (sp : Sp) (dvs : List V) (E : XK) (t : TA) : TE := fun σ H Q => t σ H fun vs H1 => sp (vs ++ dvs) H1 Q E
noncomputable def Binds (K : PySem.W.Frag) (fd : FuncData) (ps : List Str) (ds : List Value) : Prop :=
  ∀ (s : Shared) (us : List Value), K.In s.heap → (us ++ ds).length = ps.length → BindsTo s fd ⟨us, []⟩ (ps.zip (us ++ ds))
theorem Binds.all {K : PySem.W.Frag} {fd : FuncData} {ps : List Str} (h : ∀ us : List Value, us.length = ps.length → bindArgs fd ⟨us, []⟩ = pure (ps.zip us)) : Binds K fd ps [] := fun s us _ hl => by
  rw [List.append_nil] at hl ⊢
  exact .of_eq (h us hl)

noncomputable def Passes (CX : CXT) (X : Cx) (E : XK) : Prop := ∀ (pins : List (Addr × Obj)) (σ : St) (H : Hp) (s : Shared) (e : Value) (s' : Shared), Inv X pins σ H s → CX X.stack H s E e s' → X.xe e s'

section
variable {X : Cx} {CX : CXT} {k : Nat} {f C : Addr} {fd : FuncData} {ps : List Str} {sp : Sp} {dvs : List V} {ds : List Value} {E : XK} {x m : Str} {p pos apos : Pos} {e o : Expr} {es : List Expr} {ta : TE} {t : TA}

theorem run_fn {pins : List (Addr × Obj)} {σ : St} {H : Hp} {s : Shared} {Q : VK} {us : List Value} {vs : List V} (F : FnOk X.prog X.w X.K X.mg X.base CX k f fd ps sp) (hr : Room k X.A) (hb : Binds X.K fd ps ds) (hd : Vals dvs ds) (hx : Passes CX X E)
    (I : Inv X pins σ H s) (r : Vals vs us) (h : sp (vs ++ dvs) H Q E) : wpAny (model X.prog X.w) X.A (call (.ref f) us) (EP X pins σ Q) X.xe s := by
  have r2 : Vals (vs ++ dvs) (us ++ ds) := r.append hd
  have hl : (us ++ ds).length = ps.length := by rw [← r2.length]; exact F.len _ _ _ _ h
  refine wpAny_call (codeAny_mono (F.run X.A X.stack s H ⟨us, []⟩ (us ++ ds) (vs ++ dvs) Q E hr I.env0 (hb s us I.kIn hl) r2 h) fun r s' hq => ?_)
  cases r with
  | error e => exact hx pins σ H s e s' I hq
  | ok fl =>
    cases fl with
    | ret u => exact I.after hq
    | next => exact False.elim hq
    | brk => exact False.elim hq
    | cont => exact False.elim hq

theorem pe_call (F : FnOk X.prog X.w X.K X.mg X.base CX k f fd ps sp) (hr : Room k X.A) (hg : Gl X x) (hm : X.mg x = some (.ref f)) (hk : PySem.W.keepIn X.K (.ref f) = true) (hb : Binds X.K fd ps ds) (hd : Vals dvs ds) (hx : Passes CX X E)
    (ha : PA X (e :: es) t) (hdb : (x == ("__debug__" : Str)) = false := by decide) (he : starEach (e :: es) X.env = (false, eval e X.env) :: starEach es X.env := by rfl) (hpl : (backTo pos (starEach es X.env)).any (·.1) = false := by rfl) :
    PE X (.Call (.Name x p) (e :: es) [] pos) (tCall sp dvs E t) := by
  intro pins s σ H Q I h
  refine wpAny_Call_Name_kw (ld_glob I hg hm ?_ hdb)
  refine PySem.W.callWith_K (h₀ := X.base) I.ok.mod.kin hk (thn (ha pos pins s σ H _ I h) fun us s1 ⟨vs, H1, I1, r, q⟩ => ⟨I1.kIn, ?_⟩) he hpl
  exact run_fn F hr hb hd hx I1 r q
theorem pe_call0 (F : FnOk X.prog X.w X.K X.mg X.base CX k f fd ps sp) (hr : Room k X.A) (hg : Gl X x) (hm : X.mg x = some (.ref f)) (hk : PySem.W.keepIn X.K (.ref f) = true) (hb : Binds X.K fd ps ds) (hd : Vals dvs ds) (hx : Passes CX X E)
    (hdb : (x == ("__debug__" : Str)) = false := by decide) : PE X (.Call (.Name x p) [] [] pos) (tCall sp dvs E tNil) := by
  intro pins s σ H Q I h
  refine wpAny_Call_Name_kw (ld_glob I hg hm ?_ hdb)
  exact PySem.W.callWith_K0 I.kIn hk (run_fn (us := []) F hr hb hd hx I .nil h)

end

section
variable {X : Cx} {CX : CXT} {k : Nat} {f C : Addr} {fd : FuncData} {ps ks : List Str} {sp : Sp} {E : XK} {x m : Str} {p pos apos kpos : Pos} {e o : Expr} {es : List Expr} {kws : List Keyword} {te ta : TE} {t tk : TA} {nm : Option Str}
variable {g : List Value → List Value → List Value} {gV : List V → List V → List V}
end

structure FnScope (N P : List Str) (sc : Scope) : Prop where
  kind : sc.kind = .function
  co : sc.isCoroutine = false
  gen : sc.isGenerator = false
  nd : N.Nodup
  pre : N.take P.length = P
  par : ∀ x ∈ P, sc.names.lookup x = some .local ∨ sc.names.lookup x = some .cell
  nofree : ∀ y ∈ sc.names, y.2 ≠ .free

theorem bindL_out {kindOf : Str → Option NameKind} {x : Str} : ∀ {binds : List (Str × Value)} {m : Str → Option Value}, (∀ v, (x, v) ∉ binds) → bindL kindOf binds m x = m x
  | [], _, _ => rfl
  | (n, v) :: r, m, h => by
    unfold bindL
    rw [bindL_out fun w hw => h w (List.mem_cons_of_mem _ hw)]
    split
    · have : x ≠ n := by rintro rfl; exact h v List.mem_cons_self
      simp [this]
    · rfl
theorem bindC_out {kindOf : Str → Option NameKind} {x : Str} : ∀ {binds : List (Str × Value)} {m : Str → Option Value}, (∀ v, (x, v) ∉ binds) → bindC kindOf binds m x = m x
  | [], _, _ => rfl
  | (n, v) :: r, m, h => by
    unfold bindC
    rw [bindC_out fun w hw => h w (List.mem_cons_of_mem _ hw)]
    split
    · rfl
    · have : x ≠ n := by rintro rfl; exact h v List.mem_cons_self
      simp [this]
theorem bindL_get {kindOf : Str → Option NameKind} {x : Str} {v : Value} : ∀ {P : List Str} {vs : List Value} {i : Nat} {m : Str → Option Value}, P.Nodup → P[i]? = some x → vs[i]? = some v → kindOf x = some .local →
    bindL kindOf (P.zip vs) m x = some v
  | [], _, _, _, _, h, _, _ => by simp at h
  | _ :: _, [], _, _, _, _, h, _ => by simp at h
  | p :: P, w :: vs, 0, m, nd, h1, h2, hk => by
    simp at h1 h2; subst h1; subst h2
    show bindL kindOf ((p, w) :: P.zip vs) m p = _
    unfold bindL
    rw [bindL_out fun v hv => (List.nodup_cons.mp nd).1 (List.of_mem_zip hv).1, if_pos hk]
    simp
  | p :: P, w :: vs, i + 1, m, nd, h1, h2, hk => by
    show bindL kindOf ((p, w) :: P.zip vs) m x = _
    unfold bindL
    exact bindL_get (i := i) (List.nodup_cons.mp nd).2 (by simpa using h1) (by simpa using h2) hk
theorem bindC_get {kindOf : Str → Option NameKind} {x : Str} {v : Value} : ∀ {P : List Str} {vs : List Value} {i : Nat} {m : Str → Option Value}, P.Nodup → P[i]? = some x → vs[i]? = some v → kindOf x ≠ some .local →
    bindC kindOf (P.zip vs) m x = some v
  | [], _, _, _, _, h, _, _ => by simp at h
  | _ :: _, [], _, _, _, _, h, _ => by simp at h
  | p :: P, w :: vs, 0, m, nd, h1, h2, hk => by
    simp at h1 h2; subst h1; subst h2
    show bindC kindOf ((p, w) :: P.zip vs) m p = _
    unfold bindC
    rw [bindC_out fun v hv => (List.nodup_cons.mp nd).1 (List.of_mem_zip hv).1, if_neg hk]
    simp
  | p :: P, w :: vs, i + 1, m, nd, h1, h2, hk => by
    show bindC kindOf ((p, w) :: P.zip vs) m x = _
    unfold bindC
    exact bindC_get (i := i) (List.nodup_cons.mp nd).2 (by simpa using h1) (by simpa using h2) hk

noncomputable def start (N : List Str) (vs : List V) : St := vs.map some ++ List.replicate (N.length - vs.length) none

noncomputable def cxOf (CX : CXT) (P : Program) (w : World) (K : PySem.W.Frag) (mg : Str → Option Value) (base : Heap) (N : List Str) (qual : Str) (scope : Scope) (f : Addr) (cd : Value) (A : Around) (outer : List Env) (s : Shared) (H : Hp) (E : XK) : Cx where
  prog := P
  w := w
  K := K
  mg := mg
  base := base
  A := A.deeper (envOfC qual scope s.heap.objs.size f cd)
  N := N
  s₀ := s
  H₀ := H
  env := envOfC qual scope s.heap.objs.size f cd
  outer := outer
  stack := envOfC qual scope s.heap.objs.size f cd :: outer
  ex := []
  calm := true
  fn := fun _ => true
  pn := []
  xe := fun e s' => wpAny (model P w) (A.deeper (envOfC qual scope s.heap.objs.size f cd)) (leaving (envOfC qual scope s.heap.objs.size f cd) e) (fun _ s'' => CX outer H s E e s'') (fun e' s'' => CX outer H s E e' s'') s'

theorem cell_has {sc : Scope} {n : Nat} {x : Str} (h : sc.names.lookup x = some .cell) : ∃ c, (cellsFrom n sc.names []).lookup x = some c := by
  have q := PySem.W.cellsFrom_some sc.names n [] (.inl h)
  exact Option.isSome_iff_exists.mp q

theorem inv_start {CX : CXT} {P : Program} {w : World} {K : PySem.W.Frag} {mg : Str → Option Value} {base : Heap} {N ps : List Str} {qual : Str} {scope : Scope} {f : Addr} {cd : Value} {A : Around} {outer : List Env} {s s1 : Shared} {H : Hp} {E : XK} {us : List Value} {vs : List V}
    (S : FnScope N ps scope) (hd : A.handled = none) (e0 : Env0 P w K mg base A outer s H) (hl : vs.length = ps.length) (r : Vals vs us)
    (x : InCallC s s.heap.objs.size (bindL (envOfC qual scope s.heap.objs.size f cd).kindOf (ps.zip us) fun _ => none) (cellsFrom (s.heap.objs.size + 1) scope.names []) (bindC (envOfC qual scope s.heap.objs.size f cd).kindOf (ps.zip us) fun _ => none) s1) :
    Inv (cxOf CX P w K mg base N qual scope f cd A outer s H E) [] (start N vs) H s1 := by
  have hpl : ps.length ≤ N.length := by have := congrArg List.length S.pre; rw [List.length_take] at this; omega
  obtain ⟨h1, tk, rfl, hk⟩ := x.done
  have noA : ∀ b : Addr, b ∉ (cxOf CX P w K mg base N qual scope f cd A outer s H E).ex := fun b z => absurd (show b ∈ ([] : List Addr) from z) (by simp)
  refine ⟨⟨e0.mod, S.kind, rfl, rfl, Nat.le_refl _, fun y z c h1 h2 => ?_, fun y hy => ?_, fun y c _ h => ?_, fun _ => hd, Around.frames_deeper e0.frames, .inr ⟨rfl, rfl⟩, fun b z => absurd z (noA b), e0.bs, e0.bsz, fun b _ _ => noA b, fun b z => absurd z (noA b), e0.funs, e0.frf⟩,
    rfl, e0.bare, Un.kept hk, ⟨_, x.toInCall.ns, fun i y v h1 h2 h3 => ?_⟩, fun y c h => ⟨_, x.cell y c h⟩, e0.hok.fresh (Nat.le_refl _), fun y c h => ?_, fun p hp => absurd (show p ∈ ([] : List (Addr × Obj)) from hp) (by simp), e0.hok.kept hk, ?_⟩
  · exact name_of_addr x.apart (PySem.mem_of_lookup h1) (PySem.mem_of_lookup h2)
  · have hy : scope.names.lookup y = some .cell ∨ scope.names.lookup y = some .free := hy
    rcases hy with hy | hy
    · exact cell_has hy
    · exact absurd rfl (S.nofree _ (PySem.mem_of_lookup hy))
  · exact Nat.le_of_lt (x.above y c (PySem.mem_of_lookup h))
  · have hi : i < vs.length := by
      unfold start at h2
      by_cases hi : i < vs.length
      · exact hi
      · rw [List.getElem?_append_right (by simpa using hi)] at h2
        rw [List.getElem?_replicate] at h2
        split at h2 <;> cases h2
    have ha : vs[i]? = some v := by
      unfold start at h2
      rw [List.getElem?_append_left (by simpa using hi), List.getElem?_map] at h2
      cases e : vs[i]? with
      | none => rw [e] at h2; cases h2
      | some a => rw [e] at h2; cases h2; rfl
    obtain ⟨u, hu, rv⟩ := r.get ha
    have hp : ps[i]? = some y := by
      rw [← S.pre, List.getElem?_take_of_lt (by omega)]; exact h1
    have ndP : ps.Nodup := by rw [← S.pre]; exact S.nd.sublist (List.take_sublist _ _)
    refine ⟨u, rv, ?_⟩
    rcases S.par y (List.mem_of_getElem? hp) with k | k
    · exact .inl ⟨k, bindL_get ndP hp hu k⟩
    · obtain ⟨c, e⟩ := cell_has (n := s.heap.objs.size + 1) k
      refine .inr ⟨.inl k, c, e, ?_⟩
      have q := x.cell y c e
      rw [bindC_get ndP hp hu (by show scope.names.lookup y ≠ _; rw [k]; decide)] at q
      exact q
  · exact e0.hok.fresh (Nat.le_of_lt (x.above y c (PySem.mem_of_lookup h)))
  · unfold start
    show _ = N.length
    rw [List.length_append, List.length_map, List.length_replicate]
    omega

theorem fn_of {CX : CXT} {P : Program} {w : World} {K : PySem.W.Frag} {mg : Str → Option Value} {base : Heap} {k : Nat} {f : Addr} {name qual : Str} {params : Arguments} {body : List Stmt} {scope : Scope} {dV kV doc pm cdv ct oc : Value} {an od : Option Addr}
    {osl : Array (Option Value)} {N ps : List Str} {sp : Sp} (lk : K.lookup f = some ⟨oc, od, .func (PySem.W.fnOf name qual params body scope dV kV doc pm an cdv ct), osl⟩) (hcd : PySem.W.codeIn K cdv qual = true) (S : FnScope N ps scope)
    (len : ∀ vs H Q E, sp vs H Q E → vs.length = ps.length)
    (hbody : ∀ (A : Around) (outer : List Env) (s : Shared) (H : Hp) (vs : List V) (Q : VK) (E : XK), Room k (A.deeper (envOfC qual scope s.heap.objs.size f cdv)) → sp vs H Q E →
      ∃ t, PSs (cxOf CX P w K mg base N qual scope f cdv A outer s H E) body t ∧ t { nx := fun _ H' => Q .non H', rt := Q } (start N vs) H) :
    FnOk P w K mg base CX (k + 1) f (PySem.W.fnOf name qual params body scope dV kV doc pm an cdv ct) ps sp := by
  refine ⟨len, fun A outer s H args us vs Q E hr e0 hb r hsp => ?_⟩
  have hl := len _ _ _ _ hsp
  have KX : K.In s.heap := e0.mod.kin.keeps fun b o e => (e0.bs b o e).1
  have lim : s.heap.NoLimit := e0.mod.nolimit.keeps fun b o e => (e0.bs b o e).1
  have hkind : ∀ y ∈ ps.zip us, scope.names.lookup y.1 = some .local ∨ (scope.names.lookup y.1 = some .cell ∧ ((cellsFrom (s.heap.objs.size + 1) scope.names []).lookup y.1).isSome = true) := fun ⟨n, v⟩ hy => by
    rcases S.par n (List.of_mem_zip hy).1 with q | q
    · exact .inl q
    · exact .inr ⟨q, PySem.W.cellsFrom_some _ _ _ (.inl q)⟩
  refine codeAny_call_function hr.depth (KX _ _ lk) rfl S.co S.gen rfl (PySem.W.codeRec_of KX hcd) (hb _ _ _ _ ?_)
  refine wpAny_newFunctionEnv_cells S.kind hkind fun env he s1 x => ?_
  subst he
  refine ⟨lim.keeps x.toInCall.keep, codeAny_func ?_⟩
  obtain ⟨t, ht, hq⟩ := hbody A outer s H vs Q E (hr.deeper _) hsp
  have I : Inv (cxOf CX P w K mg base N qual scope f cdv A outer s H E) [] (start N vs) H s1 := inv_start S hr.hd e0 hl r x
  refine wpAny_mono (ht [] s1 (start N vs) H _ I hq) (fun fl s' hs => ?_) fun e s' hs => hs
  have fin : ∀ {σ' : St} {H' : Hp} {v : V} {u : Value}, Inv (cxOf CX P w K mg base N qual scope f cdv A outer s H E) [] σ' H' s' → RelV v u → Q v H' → CE outer P w H s Q u s' :=
    fun {σ' H' v u} J rv q => ⟨v, H', J.os, J.bare, J.base, J.hok, rv, q⟩
  cases fl with
  | ret u =>
    obtain ⟨v, σ', H', J, rv, q⟩ := hs
    exact fin J rv q
  | next =>
    obtain ⟨σ', H', J, q⟩ := hs
    exact fin (v := V.non) (u := Value.none) J rfl q
  | brk =>
    obtain ⟨_, _, _, q⟩ := hs
    exact False.elim q
  | cont =>
    obtain ⟨_, _, _, q⟩ := hs
    exact False.elim q
end L2

namespace L2
open PySem PySem.Spec PyProof.Rows
section
variable {X : Cx} {x : Str} {p pos : Pos} {e : Expr} {es : List Expr} {t : TA} {id T : String} {r : List V → Hp → VK → Prop}

noncomputable def tCB (r : List V → Hp → VK → Prop) (t : TA) : TE := fun σ H Q => t σ H fun vs H1 => r vs H1 Q
theorem pe_callB (hc : CallR X (.builtin id) r) (hg : Gl X x) (hm : X.mg x = none) (hv : bootBuiltins x = some (.builtin id)) (ha : PA X (e :: es) t) (hn : x ≠ "__name__" := by decide) (hdb : (x == ("__debug__" : Str)) = false := by decide)
    (he : starEach (e :: es) X.env = (false, eval e X.env) :: starEach es X.env := by rfl) (hpl : (backTo pos (starEach es X.env)).any (·.1) = false := by rfl) : PE X (.Call (.Name x p) (e :: es) [] pos) (tCB r t) := by
  intro pins s σ H Q I h
  refine wpAny_Call_Name_kw (ld_blt I hg hm hv ?_ hn hdb)
  exact PyProof.Rows.callWith_builtin1 (thn (ha pos pins s σ H _ I h) fun us s1 ⟨vs, H1, I1, r1, q1⟩ => hc pins s1 σ H1 vs us Q I1 r1 q1) he hpl
theorem pe_callTy (hc : CallR X (.type T) r) (hg : Gl X x) (hm : X.mg x = none) (hv : bootBuiltins x = some (.type T)) (ha : PA X (e :: es) t) (hn : x ≠ "__name__" := by decide) (hdb : (x == ("__debug__" : Str)) = false := by decide)
    (he : starEach (e :: es) X.env = (false, eval e X.env) :: starEach es X.env := by rfl) (hpl : (backTo pos (starEach es X.env)).any (·.1) = false := by rfl) : PE X (.Call (.Name x p) (e :: es) [] pos) (tCB r t) := by
  intro pins s σ H Q I h
  refine wpAny_Call_Name_kw (ld_blt I hg hm hv ?_ hn hdb)
  exact PyProof.Rows.callWith_type1 (thn (ha pos pins s σ H _ I h) fun us s1 ⟨vs, H1, I1, r1, q1⟩ => hc pins s1 σ H1 vs us Q I1 r1 q1) he hpl
end
end L2

namespace L2
open PySem PySem.Spec PyProof.Rows

section
variable {κ : Type} [DecidableEq κ]
noncomputable def valV (kvs : List (κ × V)) (k : κ) : Option V := (kvs.find? fun kv => decide (kv.1 = k)).map (·.2)
noncomputable def putK (kvs : List (κ × V)) (k : κ) (v : V) : List (κ × V) :=
  if (kvs.any fun kv => decide (kv.1 = k)) = true then kvs.map (fun kv => if kv.1 = k then (kv.1, v) else kv) else kvs ++ [(k, v)]
noncomputable def dropK (kvs : List (κ × V)) (k : κ) : List (κ × V) := kvs.filter fun kv => decide (kv.1 ≠ k)

theorem valV_pos {p : κ × V} {r : List (κ × V)} {k : κ} (e : p.1 = k) : valV (p :: r) k = some p.2 := by simp [valV, List.find?_cons, e]
theorem valV_neg {p : κ × V} {r : List (κ × V)} {k : κ} (e : ¬ p.1 = k) : valV (p :: r) k = valV r k := by simp [valV, List.find?_cons, e]
theorem valV_any (k : κ) : ∀ kvs : List (κ × V), (kvs.any fun kv => decide (kv.1 = k)) = (valV kvs k).isSome
  | [] => rfl
  | p :: r => by
    rw [List.any_cons]
    by_cases e : p.1 = k
    · simp only [valV_pos e, decide_eq_true e, Bool.true_or, Option.isSome_some]
    · rw [valV_neg e, decide_eq_false e, Bool.false_or]; exact valV_any k r
theorem RelO.isSome_eq {o : Option V} {u : Option Value} (r : RelO o u) : o.isSome = u.isSome := by
  cases o with
  | none => cases u with
    | none => rfl
    | some _ => exact (show False from r).elim
  | some _ => cases u with
    | none => exact (show False from r).elim
    | some _ => rfl
theorem RelO.getD {o : Option V} {u : Option Value} {d : V} {d' : Value} (r : RelO o u) (rd : RelV d d') : RelV (o.getD d) (u.getD d') := by
  cases o with
  | none => cases u with
    | none => exact rd
    | some _ => exact (show False from r).elim
  | some _ => cases u with
    | none => exact (show False from r).elim
    | some _ => exact r

theorem KV.val {kvs : List (κ × V)} {vs : List (κ × Value)} (r : KV kvs vs) (k : κ) : RelO (valV kvs k) (valueAt vs k) := by
  unfold KV at r
  induction r with
  | nil => exact True.intro
  | @cons p q ps qs h t ih =>
    obtain ⟨h1, h2⟩ := h
    by_cases e : p.1 = k
    · have e' : q.1 = k := h1.symm.trans e
      have b : valueAt (q :: qs) k = some q.2 := by simp [valueAt, List.find?_cons, e']
      rw [valV_pos e, b]; exact h2
    · have e' : ¬ q.1 = k := fun z => e (h1.trans z)
      have b : valueAt (q :: qs) k = valueAt qs k := by simp [valueAt, List.find?_cons, e']
      rw [valV_neg e, b]; exact ih
theorem KV.any {kvs : List (κ × V)} {vs : List (κ × Value)} (r : KV kvs vs) (k : κ) : (kvs.any fun kv => decide (kv.1 = k)) = vs.any fun kv => decide (kv.1 = k) := by
  unfold KV at r
  induction r with
  | nil => rfl
  | cons h t ih => rw [List.any_cons, List.any_cons, ih, h.1]
theorem KV.repl {kvs : List (κ × V)} {vs : List (κ × Value)} (r : KV kvs vs) (k : κ) {y : V} {u : Value} (ry : RelV y u) :
    KV (kvs.map fun kv => if kv.1 = k then (kv.1, y) else kv) (vs.map fun kv => if kv.1 = k then (kv.1, u) else kv) := by
  unfold KV at r ⊢
  induction r with
  | nil => exact .nil
  | @cons p q ps qs h t ih =>
    rw [List.map_cons, List.map_cons]
    refine .cons ?_ ih
    obtain ⟨h1, h2⟩ := h
    by_cases e : p.1 = k
    · rw [if_pos e, if_pos (h1.symm.trans e)]; exact ⟨h1, ry⟩
    · rw [if_neg e, if_neg (fun z => e (h1.trans z))]; exact ⟨h1, h2⟩
theorem KV.put {kvs : List (κ × V)} {vs : List (κ × Value)} (r : KV kvs vs) (k : κ) {y : V} {u : Value} (ry : RelV y u) : KV (putK kvs k y) (stored vs k u) := by
  unfold putK stored
  rw [r.any k]
  by_cases e : (vs.any fun kv => decide (kv.1 = k)) = true
  · rw [if_pos e, if_pos e]; exact r.repl k ry
  · rw [if_neg e, if_neg e]; exact Paired.snoc r ⟨rfl, ry⟩
theorem KV.drop {kvs : List (κ × V)} {vs : List (κ × Value)} (r : KV kvs vs) (k : κ) : KV (dropK kvs k) (without vs k) := by
  unfold KV at r ⊢
  unfold dropK without
  induction r with
  | nil => exact .nil
  | @cons p q ps qs h t ih =>
    obtain ⟨h1, h2⟩ := h
    rw [List.filter_cons, List.filter_cons]
    by_cases e : p.1 = k
    · have a : ¬ decide (p.1 ≠ k) = true := by simp [e]
      have b : ¬ decide (q.1 ≠ k) = true := by simp [h1.symm.trans e]
      rw [if_neg a, if_neg b]; exact ih
    · have e' : ¬ q.1 = k := fun z => e (h1.trans z)
      have a : decide (p.1 ≠ k) = true := by simp [e]
      have b : decide (q.1 ≠ k) = true := by simp [e']
      rw [if_pos a, if_pos b]; exact .cons ⟨h1, h2⟩ ih
theorem KV.keys {kvs : List (κ × V)} {vs : List (κ × Value)} (r : KV kvs vs) : kvs.map (·.1) = vs.map (·.1) := by
  unfold KV at r
  induction r with
  | nil => rfl
  | cons h t ih => rw [List.map_cons, List.map_cons, ih, h.1]
theorem KV.length {kvs : List (κ × V)} {vs : List (κ × Value)} (r : KV kvs vs) : kvs.length = vs.length := Paired.length r
end


theorem kV_is {P : Program} {w : World} {k : Key} {u : Value} (r : RelV (kV k) u) : (mixKind P w).is k u = true := by
  cases k with
  | inl i => obtain ⟨t, e⟩ := (show ∃ t, u = Value.int i t from r); subst e; exact mixKind_int P w i t
  | inr x => obtain ⟨t, e⟩ := (show ∃ t, u = Value.str x t from r); subst e; exact mixKind_str P w x t
theorem items_are {P : Program} {w : World} : ∀ {ks : List Key} {us : List Value}, Vals (ks.map kV) us → ItemsAre (mixKind P w) ks us
  | [], _, r => by rw [List.map_nil] at r; cases r; exact .nil
  | k :: ks, _, r => by
    rw [List.map_cons] at r
    cases r with
    | cons h t => exact .cons (kV_is h) (items_are t)

noncomputable abbrev KT (H : Hp) : List (List Key × V) → List (List Key × Addr × Value) → Prop := Paired fun p q => p.1 = q.1 ∧ H q.2.1 = some (.tup (p.1.map kV)) ∧ RelV p.2 q.2.2
theorem KT.val {H : Hp} {kvs : List (List Key × V)} {xs : List (List Key × Addr × Value)} (r : KT H kvs xs) (k : List Key) : RelO (valV kvs k) ((atKey xs k).map (·.2)) := by
  induction r with
  | nil => exact True.intro
  | @cons p q ps qs h t ih =>
    obtain ⟨h1, _, h2⟩ := h
    by_cases e : p.1 = k
    · have e' : q.1 = k := h1.symm.trans e
      have b : atKey (q :: qs) k = some q.2 := by simp [atKey, List.find?_cons, e']
      rw [valV_pos e, b]; exact h2
    · have e' : ¬ q.1 = k := fun z => e (h1.trans z)
      have b : atKey (q :: qs) k = atKey qs k := by simp [atKey, List.find?_cons, e']
      rw [valV_neg e, b]; exact ih
theorem KT.repl {H : Hp} {kvs : List (List Key × V)} {xs : List (List Key × Addr × Value)} (r : KT H kvs xs) (k : List Key) {y : V} {u : Value} (ry : RelV y u) :
    KT H (kvs.map fun kv => if kv.1 = k then (kv.1, y) else kv) (xs.map (putAt k u)) := by
  induction r with
  | nil => exact .nil
  | @cons p q ps qs h t ih =>
    rw [List.map_cons, List.map_cons]
    refine .cons ?_ ih
    obtain ⟨h1, h2, h3⟩ := h
    unfold putAt
    by_cases e : p.1 = k
    · rw [if_pos e, if_pos (h1.symm.trans e)]; exact ⟨h1, h2, ry⟩
    · rw [if_neg e, if_neg (fun z => e (h1.trans z))]; exact ⟨h1, h2, h3⟩
theorem KT.put {H : Hp} {kvs : List (List Key × V)} {xs : List (List Key × Addr × Value)} (r : KT H kvs xs) (k : List Key) {b : Addr} {y : V} {u : Value} (hb : H b = some (.tup (k.map kV))) (ry : RelV y u) :
    KT H (putK kvs k y) (storedH xs k b u) := by
  have e : (kvs.any fun kv => decide (kv.1 = k)) = (atKey xs k).isSome := by
    rw [valV_any, (r.val k).isSome_eq, Option.isSome_map]
  unfold putK storedH
  rw [e]
  by_cases q : (atKey xs k).isSome = true
  · rw [if_pos q, if_pos q]; exact r.repl k ry
  · rw [if_neg q, if_neg q]; exact Paired.snoc r ⟨rfl, hb, ry⟩
theorem KT.keeps {H H' : Hp} {kvs : List (List Key × V)} {xs : List (List Key × Addr × Value)} (r : KT H kvs xs) (ht : ∀ b ys, H b = some (.tup ys) → H' b = some (.tup ys)) : KT H' kvs xs :=
  Paired.mapP r fun _ _ z => ⟨z.1, ht _ _ z.2.1, z.2.2⟩

section
variable {P : Program} {w : World} {H : Hp} {h : Heap} {a : Addr}
theorem rd_of {u : HO} (ok : HOk P w H h) (e : Rd H a u) : ObjOk P w H h a u := e.ok ok
theorem dk_rd {kvs : List (Key × V)} (ok : HOk P w H h) (e : Rd H a (.dK kvs)) : kvs.length ≤ sizeLine ∧ (a == sysModules) = false ∧ ∃ vs, KV kvs vs ∧ h.DictOf (mixKind P w) a vs :=
  show ObjOk P w H h a (.dK kvs) from rd_of ok e
theorem key_of {ks : List Key} (ok : HOk P w H h) (e : H a = some (.tup (ks.map kV))) : (tupleKind (mixKind P w)).is h ks a := by
  obtain ⟨_, its, r, o, h1, h2, n, h3⟩ := (show ObjOk P w H h a (.tup (ks.map kV)) from ok a _ e)
  exact ⟨o, its.toArray, n, h1, h2, h3, by simpa using items_are r⟩
theorem dt_rd {kvs : List (List Key × V)} (ok : HOk P w H h) (e : Rd H a (.dT kvs)) : kvs.length ≤ sizeLine ∧ (a == sysModules) = false ∧
    ∃ xs, KT H kvs xs ∧ h.DictOfH (tupleKind (mixKind P w)) a xs := by
  obtain ⟨z, y, xs, r, o, es, ep, h1, h2, h3, h4, h5⟩ := (show ObjOk P w H h a (.dT kvs) from rd_of ok e)
  refine ⟨z, y, xs, r, o, es, ep, h1, h2, h3, h4, fun x hx => ?_, h5⟩
  have all : ∀ {l : List (List Key × V)} {m : List (List Key × Addr × Value)}, KT H l m → ∀ x ∈ m, (tupleKind (mixKind P w)).is h x.1 x.2.1 := by
    intro l m q
    induction q with
    | nil => intro x hx; exact nomatch hx
    | @cons p q ps qs hq t ih =>
      intro x hx
      rcases List.mem_cons.mp hx with e | hx
      · subst e
        exact key_of ok (by rw [← hq.1]; exact hq.2.1)
      · exact ih x hx
  exact all r x hx
end

noncomputable def DGet (H : Hp) (a : Addr) (y : V) (r : Option V) : Prop :=
  (∃ kvs k, Rd H a (.dK kvs) ∧ y = kV k ∧ r = valV kvs k) ∨ ∃ kvs k b, Rd H a (.dT kvs) ∧ y = .ref b ∧ H b = some (.tup (k.map kV)) ∧ r = valV kvs k
noncomputable def DPut (H : Hp) (a : Addr) (y v : V) (H' : Hp) : Prop :=
  (∃ kvs k, H a = some (.dK kvs) ∧ y = kV k ∧ kvs.length < sizeLine ∧ H' = upd H a (.dK (putK kvs k v))) ∨
  ∃ kvs k b, H a = some (.dT kvs) ∧ y = .ref b ∧ H b = some (.tup (k.map kV)) ∧ kvs.length < sizeLine ∧ H' = upd H a (.dT (putK kvs k v))
theorem DGet.k {H : Hp} {a : Addr} {kvs : List (Key × V)} {k : Key} (e : H a = some (.dK kvs)) : DGet H a (kV k) (valV kvs k) := .inl ⟨kvs, k, .inl e, rfl, rfl⟩
theorem DGet.t {H : Hp} {a b : Addr} {kvs : List (List Key × V)} {k : List Key} (e : H a = some (.dT kvs)) (eb : H b = some (.tup (k.map kV))) : DGet H a (.ref b) (valV kvs k) := .inr ⟨kvs, k, b, .inl e, rfl, eb, rfl⟩
theorem DPut.k {H : Hp} {a : Addr} {kvs : List (Key × V)} {k : Key} {v : V} (e : H a = some (.dK kvs)) (hl : kvs.length < sizeLine) : DPut H a (kV k) v (upd H a (.dK (putK kvs k v))) := .inl ⟨kvs, k, e, rfl, hl, rfl⟩
theorem DPut.t {H : Hp} {a b : Addr} {kvs : List (List Key × V)} {k : List Key} {v : V} (e : H a = some (.dT kvs)) (eb : H b = some (.tup (k.map kV))) (hl : kvs.length < sizeLine) :
    DPut H a (.ref b) v (upd H a (.dT (putK kvs k v))) := .inr ⟨kvs, k, b, e, rfl, eb, hl, rfl⟩


section
variable {X : Cx} {pins : List (Addr × Obj)} {σ : St} {H : Hp} {s : Shared} {a : Addr} {y v : V} {u r : Value} {o : Option V} {A : Around} {E : Value → Shared → Prop}

theorem d_in {Q : Value → Shared → Prop} (hu : A.units + 1 < cLine) (I : Inv X pins σ H s) (g : DGet H a y o) (ry : RelV y u) (h : ∀ s', Inv X pins σ H s' → Q (.bool o.isSome) s') :
    wpAny (model X.prog X.w) A (compareOp .In u (.ref a)) Q E s := by
  rcases g with ⟨kvs, k, e, ey, l⟩ | ⟨kvs, k, b, e, ey, eb, l⟩
  · subst ey
    obtain ⟨z, hd, vs, rel, dd⟩ := dk_rd I.hok e
    refine wpAny_in_of (kV_is ry) hd dd.mapOf ?_
    rw [← (rel.val k).isSome_eq, ← l]
    exact h _ (I.tok _)
  · subst ey
    cases (show u = Value.ref b from ry)
    obtain ⟨z, hd, xs, rel, dd⟩ := dt_rd I.hok e
    refine wpAny_in_heap (tupleKind_room_in1 hu) (key_of I.hok eb) hd dd ?_
    have q := (rel.val k).isSome_eq
    rw [Option.isSome_map] at q
    rw [← q, ← l]
    exact h _ (I.tok _)
end

section
variable {X : Cx} {pins : List (Addr × Obj)} {σ : St} {H : Hp} {s : Shared} {a : Addr} {kvs : List (Key × V)} {k : Key} {u : Value} {A : Around} {E : Value → Shared → Prop}
end


section
variable {X : Cx} {o i e value : Expr} {pos pos' tpos : Pos} {td ty tv : TE}
end


section
variable {X : Cx} {pos : Pos}
end

noncomputable def mergeK (kvs more : List (Key × V)) : List (Key × V) := more.foldl (fun acc kv => putK acc kv.1 kv.2) kvs
theorem KV.merge : ∀ {more : List (Key × V)} {rs : List (Key × Value)} {kvs : List (Key × V)} {vs : List (Key × Value)}, KV more rs → KV kvs vs → KV (mergeK kvs more) (merged vs rs) := by
  intro more rs kvs vs r
  unfold KV at r
  induction r generalizing kvs vs with
  | nil => intro q; exact q
  | @cons p q ps qs h t ih =>
    intro r0
    have e : KV (putK kvs p.1 p.2) (stored vs q.1 q.2) := by
      have := r0.put p.1 h.2
      rw [← h.1]; exact this
    exact ih e
structure M2 (X : Cx) (o : Expr) (m : Str) (apos : Pos) (e f : Expr) (cpos : Pos) : Prop where
  base : attributeBase o m X.env (eval o X.env) = eval o X.env
  few : ((backTo cpos (starEach [e, f] X.env)).all (fun x => !x.1) && (backToKw cpos (keywordEach [] X.env)).all (fun x => x.1.isSome)
    && decide (([e, f] : List Expr).length + ([] : List Keyword).length + (if ([] : List Keyword).isEmpty then 0 else 1) < 30)) = true
  line : (apos.endLine == cpos.line) = true
  trees : backTo cpos (starEach [e, f] X.env) = [(false, eval e X.env), (false, eval f X.env)]

section
variable {X : Cx} {pins : List (Addr × Obj)} {σ : St} {H : Hp} {s : Shared} {a : Addr} {y d : V} {u r : Value} {o : Option V} {A : Around} {E : Value → Shared → Prop}
end

section
variable {X : Cx} {o e f : Expr} {apos cpos : Pos} {td ty tx : TE}
end

section
variable {X : Cx} {pins : List (Addr × Obj)} {σ : St} {H : Hp} {s : Shared} {a : Addr} {kvs : List (Key × V)} {A : Around} {E : Value → Shared → Prop}
end


section
variable {X : Cx} {pins : List (Addr × Obj)} {σ : St} {H : Hp} {s : Shared} {a : Addr} {y : V} {u : Value} {A : Around} {E : Value → Shared → Prop}
end
end L2

namespace HT
open PySem PyProof.Rows

section
open PySem.SeqAt
open PySem.AutoSeq1 (wpAny_loadPart')
open PySem.MeetsSeq PySem.MeetsSeq2 PySem.MeetsSeq3

end

section
variable {prog : Program} {w : World} {A : Around} {E : Value → Shared → Prop} {s : Shared}

noncomputable def sIx (n d : Nat) : Option Int → Nat
  | none => d
  | some v => if v < 0 then (v + (n : Int)).toNat else min v.toNat n
end
end HT

namespace L2
open PySem PySem.Spec PyProof.Rows

noncomputable abbrev TO := St → Hp → (Option Int → Hp → Prop) → Prop
noncomputable def PO (X : Cx) (e : Option Expr) (t : TO) : Prop :=
  ∀ (pins : List (Addr × Obj)) (s : Shared) (σ : St) (H : Hp) (Q : Option Int → Hp → Prop), Inv X pins σ H s → t σ H Q →
    wpAny (model X.prog X.w) X.A (evalPart e X.env) (fun u s' => ∃ o H', Inv X pins σ H' s' ∧ IsPart u o ∧ Q o H') X.xe s
noncomputable def tNoPart : TO := fun _ H Q => Q none H
noncomputable def tPart (t : TE) : TO := fun σ H Q => t σ H fun x H1 => ∃ i, x = .int i ∧ Q (some i) H1

theorem intsAre_of {ns : List Int} : ∀ {us : List Value}, Vals (ns.map V.int) us → IntsAre us ns := by
  induction ns with
  | nil => intro us r; rw [List.map_nil] at r; cases r; exact .nil
  | cons n ns ih =>
    intro us r
    rw [List.map_cons] at r
    cases r with
    | cons r1 r2 =>
      obtain ⟨t, e⟩ := r1
      subst e
      exact .cons n t (ih r2)

section
variable {X : Cx} {e : Expr} {te : TE} {lo hi : Option Expr} {tl th : TO} {pos p2 : Pos}

theorem po_none : PO X none tNoPart := by
  intro pins s σ H Q I h
  rw [evalPart_none]
  exact wpAny_pure ⟨none, H, I, .none, h⟩
theorem po_some (h : PE X e te) : PO X (some e) (tPart te) := by
  intro pins s σ H Q I hw
  rw [evalPart_some]
  refine thn (h pins s σ H _ I hw) fun u s1 ⟨x, H1, I1, r1, q1⟩ => ?_
  obtain ⟨i, rfl, q⟩ := q1
  obtain ⟨t, rfl⟩ := r1
  exact ⟨some i, H1, I1, .int i t, q⟩

noncomputable def SlR (X : Cx) (r : V → Option Int → Option Int → Hp → VK → Prop) : Prop :=
  ∀ (pins : List (Addr × Obj)) (s : Shared) (σ : St) (H : Hp) (x : V) (v vl vu : Value) (lo hi : Option Int) (sl : Addr) (Q : VK), Inv X pins σ H s → RelV x v → s.heap.IsSliceOf sl vl vu .none → IsPart vl lo → IsPart vu hi → r x lo hi H Q →
    ∃ T id, typeLookup (.type T) "__getitem__" = pure (some (.builtin id)) ∧ s.TypeIs v T ∧ wpAny (model X.prog X.w) X.A (getItem v (.ref sl)) (EP X pins σ Q) X.xe s
theorem SlR.or {r r' : V → Option Int → Option Int → Hp → VK → Prop} (h : SlR X r) (h' : SlR X r') : SlR X (fun x lo hi H Q => r x lo hi H Q ∨ r' x lo hi H Q) := by
  intro pins s σ H x v vl vu lo hi sl Q I rx hs pl pu q
  rcases q with q | q
  · exact h pins s σ H x v vl vu lo hi sl Q I rx hs pl pu q
  · exact h' pins s σ H x v vl vu lo hi sl Q I rx hs pl pu q
noncomputable def tSl (r : V → Option Int → Option Int → Hp → VK → Prop) (te : TE) (tl th : TO) : TE := fun σ H Q => te σ H fun x H1 => tl σ H1 fun l H2 => th σ H2 fun u H3 => r x l u H3 Q
theorem pe_slice {r : V → Option Int → Option Int → Hp → VK → Prop} (hr : SlR X r) (he : PE X e te) (hl : PO X lo tl) (hu : PO X hi th) : PE X (.Subscript e (.Slice lo hi none p2) pos) (tSl r te tl th) := by
  intro pins s σ H Q I h
  refine Subscript_ (thn (he pins s σ H _ I h) fun v s1 ⟨x, H1, I1, r1, q1⟩ => ?_)
  refine wpAny_Slice (thn (hl pins s1 σ H1 _ I1 q1) fun vl s2 ⟨l, H2, I2, pl, q2⟩ => thn (hu pins s2 σ H2 _ I2 q2) fun vu s3 ⟨u, H3, I3, pu, q3⟩ => ?_)
  rw [evalPart_none]
  refine wpAny_pure ?_
  have I4 : Inv X pins σ H3 { s3 with heap := s3.heap.push { cls := .type "slice", data := .fields #[vl, vu, .none] } } := I3.kept (t' := s3.toks) fun b ob q => Heap.get?_push_of_some _ q
  obtain ⟨T, id, hT, ht, hg⟩ := hr pins { s3 with heap := s3.heap.push { cls := .type "slice", data := .fields #[vl, vu, .none] } } σ H3 x v vl vu l u s3.heap.objs.size Q I4 r1 (Heap.IsSliceOf.new ..) pl pu q3
  show wpAny (model X.prog X.w) X.A (subscriptTail e (.Slice lo hi none p2) v (.ref s3.heap.objs.size)) (EP X pins σ Q) X.xe { s3 with heap := s3.heap.push { cls := .type "slice", data := .fields #[vl, vu, .none] } }
  exact tail_any (ops := [.ref s3.heap.objs.size, v]) ht hT hg (by with_unfolding_all rfl)

noncomputable def cutV (xs : List V) (lo hi : Option Int) : List V := (xs.drop (HT.sIx xs.length 0 lo)).take (HT.sIx xs.length xs.length hi - HT.sIx xs.length 0 lo)
theorem cutV_length (xs : List V) (lo hi : Option Int) : (cutV xs lo hi).length ≤ xs.length := by
  unfold cutV
  rw [List.length_take, List.length_drop]
  omega
end
end L2

namespace L2
open PySem PySem.Spec PyProof.Rows

noncomputable def ixN (n : Nat) (i : Int) : Option Nat := if 0 ≤ i then (if i < n then some i.toNat else none) else if -(n : Int) ≤ i then some (i + n).toNat else none
noncomputable def atI {α : Type} (xs : List α) (i : Int) : Option α := (ixN xs.length i).bind fun j => xs[j]?
theorem ixN_seq {n : Nat} {i : Int} {j : Nat} (h : ixN n i = some j) : seqIndex? i n = some j ∧ j < n ∧ -(n : Int) ≤ i ∧ i < n := by
  unfold ixN at h
  by_cases h0 : 0 ≤ i
  · rw [if_pos h0] at h
    by_cases h1 : i < n
    · rw [if_pos h1] at h
      have e : i.toNat = j := Option.some.inj h
      exact ⟨by rw [seqIndex_of h0 h1, e], by omega, by omega, h1⟩
    · rw [if_neg h1] at h; cases h
  · rw [if_neg h0] at h
    by_cases h1 : -(n : Int) ≤ i
    · rw [if_pos h1] at h
      have e : (i + n).toNat = j := Option.some.inj h
      exact ⟨by rw [seqIndex_neg (by omega) h1, e], by omega, h1, by omega⟩
    · rw [if_neg h1] at h; cases h
theorem atI_get {α : Type} {xs : List α} {i : Int} {v : α} (h : atI xs i = some v) : ∃ j, seqIndex? i xs.length = some j ∧ xs[j]? = some v ∧ j < xs.length ∧ -(xs.length : Int) ≤ i ∧ i < xs.length := by
  unfold atI at h
  cases e : ixN xs.length i with
  | none => rw [e] at h; cases h
  | some j =>
    rw [e] at h
    obtain ⟨h1, h2, h3, h4⟩ := ixN_seq e
    exact ⟨j, h1, h, h2, h3, h4⟩
theorem atI_nat {α : Type} {xs : List α} {j : Nat} {v : α} (h : xs[j]? = some v) : atI xs (j : Int) = some v := by
  have hj : j < xs.length := (List.getElem?_eq_some_iff.mp h).1
  have e : ixN xs.length (j : Int) = some j := by
    unfold ixN
    rw [if_pos (by omega), if_pos (by omega)]; simp
  unfold atI; rw [e]; exact h
theorem atI_last {α : Type} (xs : List α) (v : α) : atI (xs ++ [v]) (-1) = some v := by
  have hl : (xs ++ [v]).length = xs.length + 1 := by simp
  have e : ixN (xs ++ [v]).length (-1) = some xs.length := by
    unfold ixN
    rw [hl, if_neg (by decide), if_pos (by omega)]
    congr 1
    omega
  unfold atI
  rw [e]
  show (xs ++ [v])[xs.length]? = some v
  simp

noncomputable def PlainIx (b : Expr) : Prop := ∀ o i, subscripted b false o i = operate [o, i] (getItem o i)
noncomputable def IxR (X : Cx) (r : R2) : Prop :=
  ∀ (value slice : Expr) (pins : List (Addr × Obj)) (s : Shared) (σ : St) (H : Hp) (x y : V) (v u : Value) (Q : VK), Inv X pins σ H s → RelV x v → RelV y u → r x y H Q →
    subscripted slice false v u = operate [v, u] (getItem v u) → wpAny (model X.prog X.w) X.A (subscriptTail value slice v u) (EP X pins σ Q) X.xe s
noncomputable def MtR (X : Cx) (id : String) (r : V → List V → Hp → VK → Prop) : Prop :=
  ∀ (pins : List (Addr × Obj)) (s : Shared) (σ : St) (H : Hp) (x : V) (xs : List V) (v : Value) (us : List Value) (Q : VK), Inv X pins σ H s → RelV x v → Vals xs us → r x xs H Q →
    wpAny (model X.prog X.w) X.A (call (.builtin id) (v :: us)) (EP X pins σ Q) X.xe s
section
variable {X : Cx} {a b : Expr} {ta tb : TE} {pos : Pos}
theorem IxR.or {r r' : R2} (h : IxR X r) (h' : IxR X r') : IxR X (fun x y H Q => r x y H Q ∨ r' x y H Q) := by
  intro value slice pins s σ H x y v u Q I rx ry q hs
  rcases q with q | q
  · exact h value slice pins s σ H x y v u Q I rx ry q hs
  · exact h' value slice pins s σ H x y v u Q I rx ry q hs
theorem MtR.or {id : String} {r r' : V → List V → Hp → VK → Prop} (h : MtR X id r) (h' : MtR X id r') : MtR X id (fun x xs H Q => r x xs H Q ∨ r' x xs H Q) := by
  intro pins s σ H x xs v us Q I rx rs q
  rcases q with q | q
  · exact h pins s σ H x xs v us Q I rx rs q
  · exact h' pins s σ H x xs v us Q I rx rs q
theorem pe_ix {r : R2} (hr : IxR X r) (ha : PE X a ta) (hb : PE X b tb) (hs : PlainIx b) : PE X (.Subscript a b pos) (tOp r ta tb) := by
  intro pins s σ H Q I h
  exact Subscript_ (binT ha hb I h fun v u s2 x y H2 I2 rx ry q => hr a b pins s2 σ H2 x y v u Q I2 rx ry q (hs _ _))

noncomputable def rIxL (K : PySem.W.Frag) : R2 := fun x y H Q => ∃ p xs i v, x = .ref p ∧ y = .int i ∧ SqL K H p xs ∧ atI xs i = some v ∧ Q v H
noncomputable def rIxT (K : PySem.W.Frag) : R2 := fun x y H Q => ∃ p xs i v, x = .ref p ∧ y = .int i ∧ SqT K H p xs ∧ atI xs i = some v ∧ Q v H
noncomputable def rIxS : R2 := fun x y H Q => ∃ z i c, x = .str z ∧ y = .int i ∧ z.length ≤ sizeLine ∧ atI z.cps.toList i = some c ∧ Q (.str ⟨#[c]⟩) H
theorem ix_list : IxR X (rIxL X.K) := by
  intro value slice pins s σ H x y v u Q I rx ry h hs
  obtain ⟨p, xs, i, z, rfl, rfl, hq, he, q⟩ := h
  cases rx
  obtain ⟨t, rfl⟩ := ry
  obtain ⟨its, r, pl, hz⟩ := I.list hq
  obtain ⟨j, h1, h2, h3, h4, h5⟩ := atI_get he
  obtain ⟨w, ew, rw'⟩ := r.get h2
  have hl := r.length
  have hn := line63
  have fin : EP X pins σ Q w s := ⟨z, H, I, rw', q⟩
  by_cases h0 : 0 ≤ i
  · have hj : i.toNat = j := by
      rw [seqIndex_of h0 h5] at h1
      exact Option.some.inj h1
    exact item_listR pl.isList h0 (by omega) (by rw [hj]; simpa using ew) fin hs
  · have hj : (i + (its.toArray.size : Int)).toNat = j := by
      rw [seqIndex_neg (by omega) h4] at h1
      rw [List.size_toArray, ← hl]
      exact Option.some.inj h1
    exact subscriptTail_builtinR (x := w) pl.isList.typeIs slot_list_getitem.lookup
      (wpAny_getItem_list_neg (Q := fun r s' => r = w ∧ EP X pins σ Q r s') pl.isList (by omega) (by rw [List.size_toArray] <;> omega) (by omega) (by rw [hj]; simpa using ew) ⟨rfl, fin⟩) hs
theorem ix_tup : IxR X (rIxT X.K) := by
  intro value slice pins s σ H x y v u Q I rx ry h hs
  obtain ⟨p, xs, i, z, rfl, rfl, hq, he, q⟩ := h
  cases rx
  obtain ⟨t, rfl⟩ := ry
  obtain ⟨its, r, pl, hz⟩ := I.tuple hq
  obtain ⟨j, h1, h2, h3, h4, h5⟩ := atI_get he
  obtain ⟨w, ew, rw'⟩ := r.get h2
  have hl := r.length
  have hn := line63
  have fin : EP X pins σ Q w s := ⟨z, H, I, rw', q⟩
  exact subscriptTail_builtinR (x := w) pl.typeIs slot_tuple_getitem.lookup
    (getItem_tuple (j := j) (Q := fun r s' => r = w ∧ EP X pins σ Q r s') pl (by omega) (by omega) (by rw [List.size_toArray, ← hl]; exact h1) (by simpa using ew) ⟨rfl, fin⟩) hs
theorem ix_str : IxR X rIxS := by
  intro value slice pins s σ H x y v u Q I rx ry h hs
  obtain ⟨z, i, c, rfl, rfl, hz, he, q⟩ := h
  obtain ⟨t, rfl⟩ := rx
  obtain ⟨t', rfl⟩ := ry
  obtain ⟨j, h1, h2, h3, h4, h5⟩ := atI_get he
  have hl : z.cps.toList.length = z.length := by simp [Str.length]
  rw [hl] at h1 h4 h5
  have hn := line63
  exact tail_any (typeIs_str s z t) slot_str_getitem.lookup (getItem_str (c := c) (by
    have e1 : decide (i < -(2 ^ 63 : Int)) = false := decide_eq_false (by omega)
    have e2 : decide (i ≥ 2 ^ 63) = false := decide_eq_false (by omega)
    rw [e1, e2, Bool.or_false]) (by rw [h1]; simpa using h2) ⟨.str ⟨#[c]⟩, H, I.tok _, ⟨_, rfl⟩, q⟩) hs
theorem Inv.lst {pins : List (Addr × Obj)} {σ : St} {H : Hp} {s : Shared} {p : Addr} {xs : List V} (I : Inv X pins σ H s) (h : H p = some (.lst xs)) :
    ∃ (its : List Value) (n : Nat), Vals xs its ∧ s.heap.get? p = some { cls := .type "list", data := .seq its.toArray n } ∧ xs.length ≤ sizeLine := by
  obtain ⟨z, its, n, r, e⟩ := I.hok p _ h
  exact ⟨its, n, r, e, z⟩
theorem slice_bounds (lo hi : Option Int) (n : Nat) : (sliceBounds lo hi none n).1 = ((HT.sIx n 0 lo : Nat) : Int) ∧ (sliceBounds lo hi none n).2.1 = ((HT.sIx n n hi : Nat) : Int) ∧ (sliceBounds lo hi none n).2.2 = 1 := by
  refine ⟨?_, ?_, rfl⟩
  · cases lo with
    | none => simp [sliceBounds, HT.sIx]
    | some i =>
      simp only [sliceBounds, HT.sIx, Option.getD_none, show (1 : Int) > 0 by decide, if_true]
      by_cases h : i < 0
      · simp only [h, if_true] <;> omega
      · simp only [h, if_false] <;> omega
  · cases hi with
    | none => simp [sliceBounds, HT.sIx]
    | some i =>
      simp only [sliceBounds, HT.sIx, Option.getD_none, show (1 : Int) > 0 by decide, if_true]
      by_cases h : i < 0
      · simp only [h, if_true] <;> omega
      · simp only [h, if_false] <;> omega
theorem slicePick_cut (its : List Value) (lo hi : Option Int) : slicePick its.toArray lo hi none = ((its.drop (HT.sIx its.length 0 lo)).take (HT.sIx its.length its.length hi - HT.sIx its.length 0 lo)).toArray := by
  obtain ⟨h1, h2, h3⟩ := slice_bounds lo hi its.toArray.size
  unfold slicePick
  rw [h1, h2, h3]
  simp only [sliceRange_one, pick_run, List.size_toArray] <;> rfl
noncomputable def rSlL (K : PySem.W.Frag) : V → Option Int → Option Int → Hp → VK → Prop := fun x lo hi H Q => ∃ a xs, x = .ref a ∧ SqL K H a xs ∧ ∀ p, H p = none → Q (.ref p) (upd H p (.lst (cutV xs lo hi)))
theorem sl_list : SlR X (rSlL X.K) := by
  intro pins s σ H x v vl vu lo hi sl Q I rx hs pl pu h
  obtain ⟨a, xs, rfl, hx, q⟩ := h
  cases rx
  obtain ⟨its, r, ht, hz⟩ := I.list hx
  have hlen := r.length
  refine ⟨"list", _, slot_list_getitem.lookup, ht.isList.typeIs, ?_⟩
  refine wpAny_getItem_list_slice ht.isList hs pl pu .none (by simp) ?_ (by rw [List.size_toArray] <;> omega)
  rw [slicePick_cut, ← hlen]
  refine ⟨.ref s.heap.objs.size, _, I.laid (t' := s.toks) (o := .lst (cutV xs lo hi)) (fun b ob q => Heap.get?_push_of_some _ q) (Nat.le_refl _) ?_, rfl, q _ (I.hok.fresh (Nat.le_refl _))⟩
  exact ⟨Nat.le_trans (cutV_length xs lo hi) hz, _, 0, (r.drop (HT.sIx xs.length 0 lo)).take (HT.sIx xs.length xs.length hi - HT.sIx xs.length 0 lo), Heap.get?_push_size _ rfl⟩

noncomputable def flatV : V → Bool
  | .non => true
  | .bl _ => true
  | .int _ => true
  | .str _ => true
  | _ => false
noncomputable def eqV : V → V → Bool
  | .non, .non => true
  | .bl a, .bl b => a == b
  | .bl a, .int b => (if a then 1 else 0) == b
  | .int a, .bl b => a == (if b then 1 else 0)
  | .int a, .int b => a == b
  | .str a, .str b => a == b
  | _, _ => false
theorem eqAt_V {A : Around} {s : Shared} {y x : V} {u v : Value} (ry : RelV y u) (rx : RelV x v) (fy : flatV y = true) (fx : flatV x = true) : SeqAt.EqAt A s u v (eqV y x) := by
  cases y with
  | non =>
    cases ry
    cases x with
    | non => cases rx; exact SeqAt.EqAt.same _
    | bl b => cases rx; exact SeqAt.EqAt.none_bool b
    | int b => obtain ⟨t, rfl⟩ := rx; exact SeqAt.EqAt.none_int b t
    | str b => obtain ⟨t, rfl⟩ := rx; exact SeqAt.EqAt.none_str b t
    | _ => exact absurd (show false = true from fx) Bool.false_ne_true
  | bl a =>
    cases ry
    cases x with
    | non => cases rx; exact SeqAt.EqAt.bool_none a
    | bl b => cases rx; exact SeqAt.EqAt.bool_bool a b
    | int b => obtain ⟨t, rfl⟩ := rx; exact SeqAt.EqAt.bool_int a b t
    | str b => obtain ⟨t, rfl⟩ := rx; exact SeqAt.EqAt.bool_str a b t
    | _ => exact absurd (show false = true from fx) Bool.false_ne_true
  | int a =>
    obtain ⟨t', rfl⟩ := ry
    cases x with
    | non => cases rx; exact SeqAt.EqAt.int_none a t'
    | bl b => cases rx; exact SeqAt.EqAt.int_bool a t' b
    | int b => obtain ⟨t, rfl⟩ := rx; exact SeqAt.EqAt.int_int a t' b t
    | str b => obtain ⟨t, rfl⟩ := rx; exact SeqAt.EqAt.int_str a t' b t
    | _ => exact absurd (show false = true from fx) Bool.false_ne_true
  | str a =>
    obtain ⟨t', rfl⟩ := ry
    cases x with
    | non => cases rx; exact SeqAt.EqAt.str_none a t'
    | bl b => cases rx; exact SeqAt.EqAt.str_bool a t' b
    | int b => obtain ⟨t, rfl⟩ := rx; exact SeqAt.EqAt.str_int a t' b t
    | str b => obtain ⟨t, rfl⟩ := rx; exact SeqAt.EqAt.str_str a t' b t
    | _ => exact absurd (show false = true from fx) Bool.false_ne_true
  | _ => exact absurd (show false = true from fy) Bool.false_ne_true
noncomputable def eqU (x : V) (u : Value) : Bool := match u with
  | .none => eqV .non x
  | .bool b => eqV (.bl b) x
  | .int i _ => eqV (.int i) x
  | .str z _ => eqV (.str z) x
  | _ => false
theorem eqU_of {x y : V} {u : Value} (r : RelV y u) (f : flatV y = true) : eqU x u = eqV y x := by
  cases y with
  | non => cases r; rfl
  | bl b => cases r; rfl
  | int i => obtain ⟨t, rfl⟩ := r; rfl
  | str z => obtain ⟨t, rfl⟩ := r; rfl
  | _ => exact absurd (show false = true from f) Bool.false_ne_true
theorem any_eqU {x : V} : ∀ {xs : List V} {us : List Value}, Vals xs us → xs.all flatV = true → us.any (eqU x) = xs.any fun y => eqV y x
  | _, _, .nil, _ => rfl
  | y :: xs, u :: us, .cons r t, f => by
    rw [List.all_cons, Bool.and_eq_true] at f
    rw [List.any_cons, List.any_cons, eqU_of r f.1, any_eqU t f.2]
theorem mem_eqAt {A : Around} {s : Shared} {x : V} {v : Value} (rx : RelV x v) (fx : flatV x = true) : ∀ {xs : List V} {us : List Value}, Vals xs us → xs.all flatV = true → ∀ u ∈ us, SeqAt.EqAt A s u v (eqU x u)
  | _, _, .nil, _ => fun u hu => by cases hu
  | y :: xs, u :: us, .cons r t, f => fun u' hu => by
    rw [List.all_cons, Bool.and_eq_true] at f
    rcases List.mem_cons.mp hu with rfl | hu
    · rw [eqU_of r f.1]; exact eqAt_V r rx f.1 fx
    · exact mem_eqAt rx fx t f.2 u' hu
noncomputable def inV (x : V) (xs : List V) : Bool := xs.any fun y => eqV y x
noncomputable def rIn (K : PySem.W.Frag) (neg : Bool) : R2 := fun x y H Q => ∃ p xs, y = .ref p ∧ (SqL K H p xs ∨ SqT K H p xs) ∧ flatV x = true ∧ xs.all flatV = true ∧ Q (.bl (if neg then !inV x xs else inV x xs)) H
theorem op_in_seq : OpR X (compareOp .In) (rIn X.K false) := by
  intro pins s σ H x y v u Q I rx ry h
  obtain ⟨p, xs, rfl, hq, fx, fs, q⟩ := h
  cases ry
  rcases hq with hq | hq
  · obtain ⟨its, r, pl, hz⟩ := I.list hq
    refine SeqAt.in_listAt (eqU x) pl.isList (fun w hw => mem_eqAt rx fx r fs w (by simpa using hw)) ⟨.bl _, H, I, rfl, ?_⟩
    rw [show its.toArray.any (eqU x) = its.any (eqU x) by simp, any_eqU r fs]
    exact q
  · obtain ⟨its, r, pl, hz⟩ := I.tuple hq
    refine SeqAt.in_tupleAt (eqU x) pl (fun w hw => mem_eqAt rx fx r fs w (by simpa using hw)) ⟨.bl _, H, I, rfl, ?_⟩
    rw [show its.toArray.any (eqU x) = its.any (eqU x) by simp, any_eqU r fs]
    exact q
theorem call_len_seq : CallR X (.builtin "len") (fun xs H Q => ∃ p ys, xs = [.ref p] ∧ (SqL X.K H p ys ∨ SqT X.K H p ys) ∧ Q (.int ys.length) H) := by
  intro pins s σ H xs us Q I r h
  obtain ⟨p, ys, rfl, hq, q⟩ := h
  obtain ⟨u, rfl, rx⟩ := vals1 r
  cases rx
  have hn := line63
  rcases hq with hq | hq
  · obtain ⟨its, r', pl, hz⟩ := I.list hq
    have hlen := r'.length
    exact Calls.call_len_list pl.isList (by simp only [List.size_toArray] <;> omega) ⟨.int ys.length, H, I.tok _, ⟨s.toks + 1, by rw [List.size_toArray, hlen]⟩, q⟩
  · obtain ⟨its, r', pl, hz⟩ := I.tuple hq
    have hlen := r'.length
    exact len_tuple pl (by simp only [List.size_toArray] <;> omega) ⟨.int ys.length, H, I.tok _, ⟨s.toks + 1, by rw [List.size_toArray, hlen]⟩, q⟩
theorem call_len_str : CallR X (.builtin "len") (fun xs H Q => ∃ z, xs = [.str z] ∧ z.length ≤ sizeLine ∧ Q (.int z.length) H) := by
  intro pins s σ H xs us Q I r h
  obtain ⟨z, rfl, hz, q⟩ := h
  obtain ⟨u, rfl, t, rfl⟩ := vals1 r
  have hn := line63
  exact len_str (by omega) ⟨.int z.length, H, I.tok _, ⟨_, rfl⟩, q⟩
theorem CallR.or {f : Value} {r r' : List V → Hp → VK → Prop} (h : CallR X f r) (h' : CallR X f r') : CallR X f (fun xs H Q => r xs H Q ∨ r' xs H Q) := by
  intro pins s σ H xs us Q I rs q
  rcases q with q | q
  · exact h pins s σ H xs us Q I rs q
  · exact h' pins s σ H xs us Q I rs q
theorem call_list_of : CallR X (.type "list") (fun xs H Q => ∃ p ys, xs = [.ref p] ∧ (SqL X.K H p ys ∨ SqT X.K H p ys) ∧ ∀ l, H l = none → Q (.ref l) (upd H l (.lst ys))) := by
  intro pins s σ H xs us Q I r h
  obtain ⟨p, ys, rfl, hq, q⟩ := h
  obtain ⟨u, rfl, rx⟩ := vals1 r
  cases rx
  have fin : ∀ (its : List Value), Vals ys its → ys.length ≤ sizeLine → ∀ (h' : Heap) (c' : Nat), (∀ b o', s.heap.get? b = some o' → h'.get? b = some o') →
      h'.get? s.heap.objs.size = some { cls := .type "list", dict := none, data := .seq its.toArray c', slots := #[] } → EP X pins σ Q (.ref s.heap.objs.size) { s with heap := h' } := fun its r' hz h' c' kp e =>
    ⟨.ref s.heap.objs.size, _, I.laid (t' := s.toks) kp (Nat.le_refl _) (show ObjOk X.prog X.w _ h' _ (.lst ys) from ⟨hz, its, c', r', e⟩), rfl, q _ (I.hok.fresh (Nat.le_refl _))⟩
  rcases hq with hq | hq
  · obtain ⟨its, r', pl, hz⟩ := I.list hq
    have hlen := r'.length
    obtain ⟨o, ho, hc, n, hd⟩ := pl.isList
    exact call_list_seq p (.inl rfl) ho hc hd (fun h' c' kp e => fin its r' hz h' c' kp e) (by simp only [List.size_toArray] <;> omega)
  · obtain ⟨its, r', pl, hz⟩ := I.tuple hq
    have hlen := r'.length
    obtain ⟨o, ho, hc, n, hd⟩ := pl
    exact call_list_seq p (.inr rfl) ho hc hd (fun h' c' kp e => fin its r' hz h' c' kp e) (by simp only [List.size_toArray] <;> omega)
noncomputable def tyV (K : PySem.W.Frag) (T : String) (x : V) (H : Hp) : Prop := match x with
  | .str _ => T = "str"
  | .int _ => T = "int"
  | .ref p => (T = "list" ∧ ∃ xs, SqL K H p xs) ∨ (T = "tuple" ∧ ∃ o, K.lookup p = some o ∧ o.cls = .type "tuple" ∧ o.dict = none) ∨
      (T = "dict" ∧ ((∃ kvs, H p = some (.dK kvs)) ∨ ∃ kvs, H p = some (.dT kvs))) ∨ (T = "set" ∧ ∃ S n, H p = some (.set S n))
  | _ => False
theorem tyV_is {pins : List (Addr × Obj)} {σ : St} {H : Hp} {s : Shared} {T : String} {x : V} {v : Value} (I : Inv X pins σ H s) (r : RelV x v) (ty : tyV X.K T x H) :
    s.TypeIs v T ∧ ∀ a, v = .ref a → ∃ ob, s.heap.get? a = some ob ∧ ob.dict = none := by
  cases x with
  | str z =>
    obtain ⟨t, rfl⟩ := r
    cases (show T = "str" from ty)
    exact ⟨typeIs_str s z t, fun _ e => nomatch e⟩
  | int i =>
    obtain ⟨t, rfl⟩ := r
    cases (show T = "int" from ty)
    exact ⟨typeIs_int s i t, fun _ e => nomatch e⟩
  | ref p =>
    cases r
    rcases ty with ⟨rfl, xs, hq⟩ | ⟨rfl, o, hk, hc, hd⟩ | ⟨rfl, hk⟩ | ⟨rfl, S, n, hk⟩
    · obtain ⟨its, _, pl, _⟩ := I.list hq
      refine ⟨pl.isList.typeIs, fun a e => ?_⟩
      cases e
      obtain ⟨o, n, e, c, hd, _⟩ := pl
      exact ⟨o, e, hd⟩
    · refine ⟨⟨o, I.kIn p o hk, hc⟩, fun a e => ?_⟩
      cases e
      exact ⟨o, I.kIn _ o hk, hd⟩
    · have z : ∃ o, s.heap.get? p = some o ∧ o.ExactDict := by
        rcases hk with ⟨kvs, hk⟩ | ⟨kvs, hk⟩
        · obtain ⟨_, _, _, _, o, _, _, e, ex, _⟩ := I.hok p _ hk
          exact ⟨o, e, ex⟩
        · obtain ⟨_, _, _, _, o, _, _, e, ex, _⟩ := I.hok p _ hk
          exact ⟨o, e, ex⟩
      obtain ⟨o, e, ex⟩ := z
      refine ⟨⟨o, e, ex.1⟩, fun a e2 => ?_⟩
      cases e2
      exact ⟨o, e, ex.2.1⟩
    · obtain ⟨o, _, _, _, e, ex, _⟩ := I.hok p _ hk
      refine ⟨⟨o, e, ex.1⟩, fun a e2 => ?_⟩
      cases e2
      exact ⟨o, e, ex.2.1⟩
  | _ => exact False.elim ty
noncomputable def tBM (K : PySem.W.Frag) (T : String) (r : V → List V → Hp → VK → Prop) (to : TE) (t : TA) : TE := fun σ H Q => to σ H fun x H1 => tyV K T x H1 ∧ t σ H1 fun xs H2 => r x xs H2 Q
variable {o e : Expr} {es : List Expr} {to : TE} {t : TA} {name : Str} {apos cpos : Pos} {T id : String} {r : V → List V → Hp → VK → Prop}
theorem pe_bm (pa : PlainAttrs T) (slot : Slot T name id) (hty : typeOf (.builtin id) = pure (.type "method_descriptor")) (hm : MtR X id r) (ho : PE X o to) (ha : PA X (e :: es) t)
    (hbase : attributeBase o name X.env (eval o X.env) = eval o X.env := by rfl)
    (hfew : ((backTo cpos (starEach (e :: es) X.env)).all (fun x => !x.1) && (backToKw cpos (keywordEach [] X.env)).all (fun x => x.1.isSome)
      && decide ((e :: es).length + ([] : List Keyword).length + (if ([] : List Keyword).isEmpty then 0 else 1) < 30)) = true := by rfl)
    (hline : (apos.endLine == cpos.line) = true := by rfl) (hs : starEach (e :: es) X.env = (false, eval e X.env) :: starEach es X.env := by rfl) (hplain : (backTo cpos (starEach es X.env)).any (·.1) = false := by rfl) :
    PE X (.Call (.Attribute o name apos) (e :: es) [] cpos) (tBM X.K T r to t) := by
  intro pins s σ H Q I h
  refine wpAny_Call_method_late hbase hfew hline rfl (thn (ho pins s σ H _ I h) fun v s1 ⟨x, H1, I1, r1, ty, q1⟩ => ?_)
  obtain ⟨h1, h2⟩ := tyV_is I1 r1 ty
  refine ⟨T, id, pa, slot, hty, h1, h2, ?_⟩
  have hA := ha cpos pins s1 σ H1 _ I1 q1
  rw [hs] at hA ⊢
  refine Calls.callWith_builtin (by show (false || (backTo cpos (starEach es X.env)).any (·.1)) = false; rw [hplain] <;> rfl) (Calls.evalArgs_plain ?_)
  exact thn hA fun us s2 ⟨vs, H2, I2, r2, q2⟩ => hm pins s2 σ H2 x vs v us Q I2 r1 r2 q2
/- xs.append(e), list.index on a module's tuple .. are MtR facts of 06m -/
end
end L2

namespace L2
open PySem PySem.Spec PyProof.Rows

noncomputable def MtM (X : Cx) (id : String) (r : V → List V → Hp → VK → Prop) : Prop :=
  ∀ (pins : List (Addr × Obj)) (s : Shared) (σ : St) (H : Hp) (x : V) (xs : List V) (v : Value) (us : List Value) (Q : VK), Inv X pins σ H s → RelV x v → Vals xs us → r x xs H Q →
    wpAny (model X.prog X.w) X.A (call (.builtin id) (v :: us)) (EP X pins σ Q) X.xe s

theorem Vals.one : ∀ {x : V} {us : List Value}, Vals [x] us → ∃ u, us = [u] ∧ RelV x u
  | _, _, .cons r .nil => ⟨_, rfl, r⟩
theorem Vals.two : ∀ {x y : V} {us : List Value}, Vals [x, y] us → ∃ u v, us = [u, v] ∧ RelV x u ∧ RelV y v
  | _, _, _, .cons r (.cons q .nil) => ⟨_, _, rfl, r, q⟩
theorem Vals.zero : ∀ {us : List Value}, Vals [] us → us = []
  | _, .nil => rfl
theorem Vals.dropLast {xs : List V} {us : List Value} (h : Vals xs us) : Vals xs.dropLast us.dropLast := by
  induction h with
  | nil => exact .nil
  | cons r t ih =>
    cases t with
    | nil => exact .nil
    | cons q t' => exact .cons r ih
section
variable {X : Cx} {pins : List (Addr × Obj)} {σ : St} {H : Hp} {s : Shared} {l b : Addr} {xs ys zs : List V}

theorem Inv.lset {its its' : List Value} {n : Nat} {f : Array Value → Array Value} {t' : Nat} (I : Inv X pins σ H s) (hH : H l = some (.lst xs))
    (e : s.heap.get? l = some { cls := .type "list", data := .seq its.toArray n }) (hf : f its.toArray = its'.toArray) (hv : Vals ys its') (hz : ys.length ≤ sizeLine) :
    Inv X pins σ (upd H l (.lst ys)) { s with heap := s.heap.update l (Obj.mapSeq f), toks := t' } := by
  have q := PySem.IsL.update e f
  rw [hf] at q
  refine I.write (x := l) (e := l) (by rw [hH]; exact trivial) (.inl rfl) (fun b' u hb hu => (Heap.get?_update_other s.heap (Obj.mapSeq f) (Ne.symm hb)).trans hu) ⟨_, q⟩ ?_
  exact ⟨hz, its', _, hv, q⟩
theorem Inv.lnew {its : List Value} {t' : Nat} (I : Inv X pins σ H s) (hv : Vals ys its) (hz : ys.length ≤ sizeLine) :
    Inv X pins σ (upd H s.heap.objs.size (.lst ys)) { s with heap := s.heap.push { cls := .type "list", data := .seq its.toArray }, toks := t' } :=
  I.laid (fun _ _ q => Heap.get?_push_of_some _ q) (Nat.le_refl _) ⟨hz, its, 0, hv, Heap.get?_push_size _ rfl⟩
theorem Inv.fresh (I : Inv X pins σ H s) : H s.heap.objs.size = none := I.hok.fresh (Nat.le_refl _)
theorem Inv.lstM (I : Inv X pins σ H s) (hH : H l = some (.lst xs)) : xs.length ≤ sizeLine ∧ ∃ (its : List Value) (n : Nat), Vals xs its ∧ xs.length = its.length ∧ s.heap.get? l = some { cls := .type "list", data := .seq its.toArray n } := by
  obtain ⟨z, its, n, r, e⟩ := I.hok l _ hH
  exact ⟨z, its, n, r, r.length, e⟩

end

section
variable {X : Cx}

noncomputable def rAppend : V → List V → Hp → VK → Prop := fun x vs H Q => ∃ l xs y, x = .ref l ∧ vs = [y] ∧ H l = some (.lst xs) ∧ xs.length < sizeLine ∧ Q .non (upd H l (.lst (xs ++ [y])))
theorem mt_append : MtM X "list.append" rAppend := by
  intro pins s σ H x vs v us Q I rx rv h
  obtain ⟨l, xs, y, rfl, rfl, hH, hz, q⟩ := h
  cases rx
  obtain ⟨u, rfl, ru⟩ := rv.one
  obtain ⟨z, its, n, r, hl, e⟩ := I.lstM hH
  refine call_meets F.slot_list_append ⟨_, e, rfl⟩ F.entry_list_append (F.args_list_append_2 _ _) (PySem.list_append l its.toArray n u (by rw [List.size_toArray]; omega)) ⟨e, ?_⟩
  refine ⟨.non, _, I.lset (its' := its ++ [u]) hH e (by simp) (r.append (.cons ru .nil)) ?_, rfl, q⟩
  rw [List.length_append, List.length_singleton]
  omega

noncomputable def rCat : R2 := fun x y H Q => ∃ l b xs zs, x = .ref l ∧ y = .ref b ∧ H l = some (.lst xs) ∧ H b = some (.lst zs) ∧ xs.length + zs.length ≤ sizeLine ∧ ∀ p, H p = none → Q (.ref p) (upd H p (.lst (xs ++ zs)))
theorem op_cat : OpR X (binaryOp .Add) rCat := by
  intro pins s σ H x y v u Q I rx ry h
  obtain ⟨l, b, xs, zs, rfl, rfl, hH, hB, hz, q⟩ := h
  cases rx
  cases ry
  obtain ⟨z, its, n, r, hl, e⟩ := I.lstM hH
  obtain ⟨z2, its2, n2, r2, hl2, e2⟩ := I.lstM hB
  refine PySem.P.add_list e e2 ?_ (by rw [List.size_toArray, List.size_toArray]; omega)
  have ea : its.toArray ++ its2.toArray = (its ++ its2).toArray := by simp
  rw [ea]
  exact ⟨.ref _, _, I.lnew (t' := s.toks) (r.append r2) (by rw [List.length_append]; omega), rfl, q _ I.fresh⟩
end

section
variable {prog : Program} {w : World} {A : Around} {E : Value → Shared → Prop} {s : Shared}
set_option maxRecDepth 100000 in
end

section
variable {X : Cx}
end
end L2

namespace Att
open PySem PySem.W PySem.Calls PyProof.Rows

theorem ints_of_wellAll {P : Params} {h : Heap} : ∀ (ns : List Int) (vs : List Value), WellAll P h vs (ns.map WData.int) → IntsAre vs ns := by
  intro ns
  induction ns with
  | nil =>
    intro vs w
    rw [List.map_nil] at w
    cases w
    exact .nil
  | cons n ns ih =>
    intro vs w
    rw [List.map_cons] at w
    cases w with
    | cons a b =>
      cases a
      exact .cons _ _ (ih _ b)

theorem script_of {l : OpenLaw} {n : Nat} (hn : l.most = some n) {P : Params} {h : Heap} {args : List WData} {vals : List Value}
    (hpre : l.row.toRowW.claim.pre args = true) (hwl : WellAll P h vals args) :
    ∃ a vs ns, vals = [Value.ref a] ∧ args = [WData.list (ns.map WData.int)] ∧ h.get? a = some { cls := .type "list", data := .seq vs.toArray } ∧ IntsAre vs ns ∧ ns.length ≤ n := by
  have hsh : WShape.hasAll [] args [.list .int] = true := (pre_splitW hpre).1
  have hc : l.pre.holds [] { args := args } = true := (pre_splitW hpre).2
  obtain ⟨d, r, rfl, h1, h2⟩ := hasAllW_cons hsh
  obtain rfl := hasAllW_nil h2
  obtain ⟨xs, rfl, h3⟩ := hasW_list h1
  obtain ⟨ns, rfl⟩ := items_int h3
  have hlen : ns.length ≤ n := by
    unfold OpenLaw.pre at hc
    have h4 : (WTm.not (.lt (.lit (.int (n : Int))) (.len (.arg 0)))).holds [] { args := [.list (ns.map .int)] } = true := by
      have h4 := (holds_andW hc).1
      rw [hn] at h4
      exact h4
    have h5 := condW_of h4 (w_not (w_lt w_lit (w_len_list (w_arg rfl))))
    rw [List.length_map] at h5
    refine Nat.le_of_not_lt fun q => ?_
    have q' : (n : Int) < ((ns.length : Nat) : Int) := by omega
    first
      | (rw [decide_eq_true q'] at h5; exact absurd h5 (by decide))
      | (simp at h5; omega)
  cases hwl with
  | cons w1 w2 =>
    cases w2
    cases w1 with
    | list ho hall => exact ⟨_, _, ns, rfl, rfl, ho, ints_of_wellAll ns _ hall, hlen⟩

theorem post_true (l : OpenLaw) (args : List WData) : l.row.toRowW.claim.post args (.bool true) args = true :=
  postW_of (r := l.row.toRowW) (X := (true == true))
    (show WShape.has [] (.bool true) .bool = true by first | rfl | decide | simp [WShape.has, WShape.arms, WShape.armsAll])
    (show (WTm.eq .res (.lit (.bool true))).value [] { args := args, res := some (.bool true), after := args } = some (.bool (true == true)) from w_eq_bool (w_res rfl) w_lit) rfl

theorem attach_call {l : OpenLaw} {n : Nat} {q : Program} {loose : List Str} {XP : (Str → Option Value) → Heap → Prop} {YP : World → Heap → Prop} {d : DefRec}
    (hn : l.most = some n) (hdf : d.params.defaults = [])
    (call : ∀ (w : World) (s₀ s₁ : Shared) (mg mb : Str → Option Value) (fa : Addr) (o : Obj) (pm cd doc : Value) (a : Addr) (vs : List Value) (ns : List Int),
      Ground q loose [] XP w s₀ mg mb s₁.heap → YP w s₁.heap →
      s₁.heap.get? fa = some o → o.data = .func (docDef d.name d.params d.body d.scope pm cd doc) → s₁.heap.CodeRec cd d.name → mg d.name = some (.ref fa) →
      s₁.heap.get? a = some { cls := .type "list", data := .seq vs.toArray } → IntsAre vs ns → ns.length ≤ n → s₁.gens = #[] →
      codeAny (model l.prog w) callerA (.call (.ref fa) ⟨[.ref a], []⟩) (fun r s' => r = .ok (.ret (.bool true)) ∧ OldK s₁.heap s'.heap ∧ s'.os = s₁.os ∧ AllBare s'.gens) s₁) :
    WalkO q loose XP YP l.row.toRowW d [] (fun f vs => PySem.call f vs) := by
  intro w s₀ s₁ mg mb G Y fa o pm cd doc dV kV ho hd hcd hD hmg hg args vals as hpre hlay hrd hwl hlo
  obtain rfl : dV = .none := Dflts.none hD hdf
  obtain rfl : kV = .none := Dflts.noKw hD
  obtain ⟨a, vs, ns, rfl, rfl, hobj, hints, hlen⟩ := script_of hn hpre hwl
  refine enter_call (codeAny_mono (call w s₀ s₁ mg mb fa o pm cd doc a vs ns G Y ho (fd_plain hd) hcd hmg hobj hints hlen hg) fun r s' hq => ?_)
  obtain ⟨rfl, h2, h3, h4⟩ := hq
  exact ⟨.inl ⟨.bool true, .bool true, [], rfl, fun _ => rfl, .bool true, post_true l _, fun _ => ⟨List.Pairwise.nil, fun _ hm => (nomatch hm)⟩⟩, h2, h3, h4⟩

section
variable {prog : Program} {w : World} {A : Around} {E : Value → Shared → Prop} {s : Shared} {K : Frag}

noncomputable def ledger (h : Heap) (L d : Addr) : List (Addr × Obj) := (List.range h.objs.size).filterMap fun a => if a = L ∨ a = d then none else (h.get? a).map fun o => (a, o)
end
end Att

namespace L2
open PySem PySem.Spec PyProof.Rows

theorem vals_ints : ∀ {vs : List Value} {ns : List Int}, IntsAre vs ns → Vals (ns.map V.int) vs
  | _, _, .nil => .nil
  | _, _, .cons n t h => .cons ⟨t, rfl⟩ (vals_ints h)

noncomputable def Only (H : Hp) : Prop := ∀ b, H b = none ∨ ∃ o xs, H b = some (.frz o (.lst xs))

theorem law_call {P : Program} {w : World} {K : PySem.W.Frag} {mg mb : Str → Option Value} {CX : CXT} {k : Nat} {fa a : Addr} {fd : FuncData} {x : Str} {sp : Sp} {s₁ : Shared} {vs : List Value} {ns : List Int}
    (KX : K.In s₁.heap) (hns : s₁.heap.Ns mainGlobals mg) (hb : s₁.heap.Ns builtinsNs mb) (hbb : ∀ x : Str, x ≠ "__name__" → mb x = bootBuiltins x) (hlim : s₁.heap.NoLimit) (hg : s₁.gens = #[])
    (ha : s₁.heap.get? a = some { cls := .type "list", data := .seq vs.toArray }) (hi : IntsAre vs ns) (hl : ns.length ≤ sizeLine) (hr : Room k callerA)
    (F : ∀ base : Heap, K.In base → base.Ns mainGlobals mg → FnOk P w K mg base CX k fa fd [x] sp) (hbind : ∀ (s : Shared) (u : Value), BindsTo s fd ⟨[u], []⟩ [(x, u)])
    (hsp : ∀ H : Hp, Only H → SqL K H a (ns.map V.int) → sp [.ref a] H (fun v _ => v = .bl true) fun _ _ _ => False)
    (hCX : ∀ H e s', CX [] H s₁ (fun _ _ _ => False) e s' → False) :
    codeAny (model P w) callerA (.call (.ref fa) ⟨[.ref a], []⟩) (fun r s' => r = .ok (.ret (.bool true)) ∧ OldK s₁.heap s'.heap ∧ s'.os = s₁.os ∧ AllBare s'.gens) s₁ := by
  have rv := vals_ints hi
  have lenV := hi.length
  -- from an abstract heap in which nothing but the script may be tracked
  have core : ∀ H : Hp, Only H → SqL K H a (ns.map V.int) → HOk P w H s₁.heap → (∀ b, H b ≠ none → b = a) → (H a ≠ none → K.lookup a = none) →
      codeAny (model P w) callerA (.call (.ref fa) ⟨[.ref a], []⟩) (fun r s' => r = .ok (.ret (.bool true)) ∧ OldK s₁.heap s'.heap ∧ s'.os = s₁.os ∧ AllBare s'.gens) s₁ := by
    intro H hO hS hok hA hK
    have base_of : ∀ {b : Addr} {o : Obj}, s₁.heap.get? b = some o → H b = none → (hidT s₁.heap H).get? b = some o := fun e n => hidT_get e n
    have noA : ∀ {b : Addr} {o : Obj} {es : Array DictEntry} {ep : Nat}, s₁.heap.get? b = some o → o.data = .dict es ep → H b = none := fun {b o es ep} e d => by
      cases q : H b with
      | none => rfl
      | some u =>
        have e' : b = a := hA b (by rw [q]; simp)
        subst e'
        rw [ha] at e; cases e
        have d' : Data.seq vs.toArray _ = Data.dict es ep := d
        cases d'
    have nsK : ∀ {b : Addr} {m : Str → Option Value}, s₁.heap.Ns b m → (hidT s₁.heap H).Ns b m := fun {b m} ⟨o, es, ep, e, d, r⟩ => ⟨o, es, ep, base_of e (noA e d), d, r⟩
    have hKb : K.In (hidT s₁.heap H) := fun b o e => base_of (KX b o e) (by
      cases q : H b with
      | none => rfl
      | some u =>
        have e' : b = a := hA b (by rw [q]; simp)
        subst e'
        rw [hK (by rw [q]; simp)] at e; cases e)
    have hM : Mod K mg (hidT s₁.heap H) := ⟨hKb, nsK hns, ⟨mb, nsK hb, hbb⟩, let ⟨mc, h1, h2⟩ := hlim; ⟨mc, nsK h1, h2⟩⟩
    have e0 : Env0 P w K mg (hidT s₁.heap H) callerA [] s₁ H := ⟨rfl, hM, fun b o e => of_hidT e, Nat.le_of_eq (hidT_size _ _), trivial, fun b hb => absurd (show b ∈ ([] : List Addr) from hb) (by simp), hok, .of_eq hg⟩
    refine codeAny_mono ((F _ hKb (nsK hns)).run callerA [] s₁ H ⟨[.ref a], []⟩ [.ref a] [.ref a] _ _ hr e0 (hbind s₁ (.ref a)) (.cons rfl .nil) (hsp H hO hS)) fun r s' h => ?_
    cases r with
    | error e => exact (hCX H e s' h).elim
    | ok fl =>
      cases fl with
      | next => exact False.elim h
      | brk => exact False.elim h
      | cont => exact False.elim h
      | ret u =>
        obtain ⟨v, H', os, bare, un, hok', r', q⟩ := h
        have q' : v = .bl true := q
        subst q'
        obtain rfl : u = Value.bool true := r'
        refine ⟨rfl, OldK.of_keep fun b o e => ?_, os, bare⟩
        cases q : H b with
        | none => exact un.keep b o e q (by intro z; exact absurd (show b ∈ ([] : List Addr) from z) (by simp)) (by simp)
        | some u =>
          rcases hO b with z | ⟨ob, xs, z⟩
          · rw [q] at z; cases z
          · have z2 := un.frzs b ob _ z
            obtain ⟨e1, _⟩ := hok b _ z
            obtain ⟨e2, _⟩ := hok' b _ z2
            rw [e] at e1; cases e1
            exact e2
  cases hk : K.lookup a with
  | some o =>
    -- the script is one of the module's own objects
    have e := KX a o hk
    rw [ha] at e
    cases e
    refine core (fun _ => none) (fun _ => .inl rfl) (.inr ⟨_, vs.toArray, _, hk, rfl, rfl, rfl, by rw [List.size_toArray, lenV]; exact hl, by simpa using rv⟩) (fun b u z => by have z' : (none : Option HO) = some u := z; cases z') (fun b z => absurd rfl z) fun z => absurd rfl z
  | none =>
    refine core (fun b => if b = a then some (.frz { cls := .type "list", data := .seq vs.toArray } (.lst (ns.map V.int))) else none) (fun b => ?_) (.inl (.inr ⟨{ cls := .type "list", data := .seq vs.toArray }, if_pos rfl⟩)) (fun b u z => ?_) (fun b z => ?_) fun _ => hk
    · by_cases hb : b = a
      · exact .inr ⟨_, _, if_pos hb⟩
      · exact .inl (if_neg hb)
    · by_cases hb : b = a
      · have z' := (if_pos hb).symm.trans z
        cases z'
        subst hb
        exact ⟨ha, by rw [List.length_map]; exact hl, vs, _, rv, ha⟩
      · have z' := (if_neg hb).symm.trans z
        cases z'
    · by_cases hb : b = a
      · exact hb
      · exact absurd (if_neg hb) z
end L2

namespace L2
open PySem PySem.Spec PyProof.Rows

theorem walk_of {l : PySem.W.OpenLaw} {n k : Nat} {q : Program} {loose : List Str} {XP : (Str → Option Value) → Heap → Prop} {YP : World → Heap → Prop} {d : DefRec} {K : Params → PySem.W.Frag} {CX : World → CXT} {sp : World → Sp} {x : Str}
    (hn : l.most = some n) (hn2 : n ≤ sizeLine) (hdf : d.params.defaults = []) (hr : Room k callerA)
    (hY : ∀ (w : World) (h : Heap), YP w h → (K w.params).In h)
    (F : ∀ (w : World) (mg : Str → Option Value) (fa : Addr) (h : Heap), (K w.params).In h → h.Ns mainGlobals mg → mg d.name = some (.ref fa) →
      ∃ fd : FuncData, (∀ (s : Shared) (u : Value), BindsTo s fd ⟨[u], []⟩ [(x, u)]) ∧
        ∀ base : Heap, (K w.params).In base → base.Ns mainGlobals mg → FnOk l.prog w (K w.params) mg base (CX w) k fa fd [x] (sp w))
    (hsp : ∀ (w : World) (H : Hp) (a : Addr) (ns : List Int), ns.length ≤ n → Only H → SqL (K w.params) H a (ns.map V.int) → sp w [.ref a] H (fun v _ => v = .bl true) fun _ _ _ => False)
    (hCX : ∀ (w : World) (H : Hp) (s : Shared) (e : Value) (s' : Shared), CX w [] H s (fun _ _ _ => False) e s' → False) :
    PySem.W.WalkO q loose XP YP l.row.toRowW d [] (fun f vs => PySem.call f vs) := by
  refine Att.attach_call hn hdf fun w s₀ s₁ mg mb fa o pm cd doc a vs ns G Y ho hd hcd hmg hobj hints hlen hg => ?_
  have KX := hY w _ Y
  obtain ⟨fd, hb, hF⟩ := F w mg fa _ KX G.T.g hmg
  exact law_call KX G.T.g G.T.b G.T.builtins G.T.nolimit hg hobj hints (Nat.le_trans hlen hn2) hr hF hb (fun H hO hS => hsp w H a ns hlen hO hS) fun H e s' => hCX w H s₁ e s'
end L2

namespace L2
open PySem PySem.Spec PyProof.Rows

noncomputable def defArgs (s : Stmt) : Arguments := match s with
  | .FunctionDef _ a _ _ _ _ _ _ _ _ => a
  | _ => { posonlyargs := [], args := [], vararg := none, kwonlyargs := [], kw_defaults := [], kwarg := none, defaults := [] }
noncomputable def defBody (s : Stmt) : List Stmt := match s with
  | .FunctionDef _ _ b _ _ _ _ _ _ _ => b
  | _ => []
noncomputable def defScope (s : Stmt) : Scope := match s with
  | .FunctionDef _ _ _ _ _ _ sc _ _ _ => sc
  | _ => { kind := .function, names := [], isGenerator := false, isCoroutine := false }

noncomputable abbrev CX0 : CXT := fun _ _ _ _ _ _ => False
noncomputable abbrev E0 : XK := fun _ _ _ => False
theorem pass0 {X : Cx} : Passes CX0 X E0 := fun _ _ _ _ _ _ _ h => h.elim

structure Fun (K : PySem.W.Frag) (x qual : Str) (st : Stmt) (f : Addr) (fd : FuncData) : Prop where
  ex : ∃ (oc : Value) (od : Option Addr) (kV doc pm : Value) (an : Option Addr) (cdv ct : Value) (osl : Array (Option Value)),
    fd = PySem.W.fnOf x qual (defArgs st) (defBody st) (defScope st) .none kV doc pm an cdv ct ∧ K.lookup f = some ⟨oc, od, .func fd, osl⟩ ∧ PySem.W.codeIn K cdv qual = true
  kp : PySem.W.keepIn K (.ref f) = true
section
variable {P : Program} {w : World} {K : PySem.W.Frag} {mg : Str → Option Value} {base : Heap}
theorem Fun.ok {x qual : Str} {st : Stmt} {f : Addr} {fd : FuncData} {N ps : List Str} {k : Nat} {sp : Sp} (F : Fun K x qual st f fd) (S : FnScope N ps (defScope st)) (len : ∀ vs H Q E, sp vs H Q E → vs.length = ps.length)
    (hbody : ∀ (cdv : Value) (A : Around) (outer : List Env) (s : Shared) (H : Hp) (vs : List V) (Q : VK) (E : XK), Room k (A.deeper (envOfC qual (defScope st) s.heap.objs.size f cdv)) → sp vs H Q E →
      ∃ t, PSs (cxOf CX0 P w K mg base N qual (defScope st) f cdv A outer s H E).nox (defBody st) t ∧ t { nx := fun _ H' => Q .non H', rt := Q } (start N vs) H) : FnOk P w K mg base CX0 (k + 1) f fd ps sp := by
  obtain ⟨oc, od, kV, doc, pm, an, cdv, ct, osl, rfl, lk, hcd⟩ := F.ex
  refine fn_of lk hcd S len fun A outer s H vs Q E hr hsp => ?_
  obtain ⟨t, h, q⟩ := hbody cdv A outer s H vs Q E hr hsp
  exact ⟨t, h.nox, q⟩
theorem Fun.binds {x qual : Str} {st : Stmt} {f : Addr} {fd : FuncData} {ps : List Str} (F : Fun K x qual st f fd)
    (h : ∀ (kV doc pm : Value) (an : Option Addr) (cdv ct : Value) (us : List Value), us.length = ps.length → bindArgs (PySem.W.fnOf x qual (defArgs st) (defBody st) (defScope st) .none kV doc pm an cdv ct) ⟨us, []⟩ = pure (ps.zip us)) : Binds K fd ps [] := by
  obtain ⟨oc, od, kV, doc, pm, an, cdv, ct, osl, rfl, lk, hcd⟩ := F.ex
  exact .all (h kV doc pm an cdv ct)
theorem fun_mk {x qual : Str} {st : Stmt} {f : Addr} {oc : Value} {od an : Option Addr} {osl : Array (Option Value)} {kV doc pm cdv ct : Value} (l : K.lookup f = some ⟨oc, od, .func (PySem.W.fnOf x qual (defArgs st) (defBody st) (defScope st) .none kV doc pm an cdv ct), osl⟩)
    (c : PySem.W.codeIn K cdv qual = true) (k : PySem.W.keepIn K (.ref f) = true) : Fun K x qual st f (PySem.W.fnOf x qual (defArgs st) (defBody st) (defScope st) .none kV doc pm an cdv ct) := ⟨⟨oc, od, kV, doc, pm, an, cdv, ct, osl, rfl, l, c⟩, k⟩
end
theorem small1000 {n : Nat} (h : n ≤ 1000) : n < sizeLine := Nat.lt_of_le_of_lt h (by decide)

section
variable {X : Cx}
theorem pv (i : Nat) {x : Str} {pos : Pos} (hN : X.N[i]? = some x := by rfl) (hv : Vis X.env.scope x := by first | exact Or.inl rfl | exact Or.inr (Or.inl rfl) | exact Or.inr (Or.inr rfl)) (hd : (x == ("__debug__" : Str)) = false := by decide)
    (hcd : (x == ("__classdict__" : Str)) = false := by decide) : PE X (.Name x pos) (tVar i) := pe_var hN hv hd hcd
end

theorem iteF {A B : Prop} (h : B) : if false = true then A else B := by
  rw [if_neg Bool.false_ne_true]
  exact h
theorem iteT {A B : Prop} (h : A) : if true = true then A else B := by
  rw [if_pos rfl]
  exact h
theorem iteNS {c A B : Prop} [Decidable c] (hc : c) (h : B) : if (!decide c) = true then A else B := by
  rw [decide_eq_true hc]
  exact iteF h

noncomputable def Same (H H' : Hp) : Prop := ∀ b o, H b = some o → H' b = some o
theorem Same.refl (H : Hp) : Same H H := fun _ _ h => h
theorem Same.trans {H H1 H2 : Hp} (a : Same H H1) (b : Same H1 H2) : Same H H2 := fun c o h => b c o (a c o h)
theorem Same.free {H H' : Hp} (e : Same H H') {l : Addr} (h : H' l = Option.none) : H l = Option.none := by
  cases q : H l with
  | none => rfl
  | some o =>
    rw [e l o q] at h
    cases h
theorem Same.seq {K : PySem.W.Frag} {H H' : Hp} {a : Addr} {xs : List V} (e : Same H H') (h : SqL K H a xs) : SqL K H' a xs := by
  rcases h with (h | ⟨o, h⟩) | h
  · exact .inl (.inl (e _ _ h))
  · exact .inl (.inr ⟨o, e _ _ h⟩)
  · exact .inr h

end L2

namespace L2
open PySem PySem.Spec PyProof.Rows
section
variable {X : Cx}
end
section
variable {κ : Type} [DecidableEq κ]
end
end L2

set_option genSizeOf false
set_option genInjectivity false
namespace L2
open PySem PySem.Spec PyProof.Rows

section
variable {prog : Program} {w : World} {A : Around} {R : Result → Shared → Prop} {s : Shared}
theorem comp_loop {elt target iter : Expr} {ifs : List Expr} {scope : Scope} {pos : Pos} {it acc : Value} {env : Env} {XE : Value → Shared → Prop} (hN : ∀ e s', XE e s' → notedBy (model prog w) A env (fun e s'' => R (.error e) s'') e s') (I : Nat → Shared → Prop)
    (turn : ∀ n s, I n s → wpAny (model prog w) A (pyNext it) (fun r s₁ => match r with
      | none => R (.ok .next) s₁
      | some v => wpAny (model prog w) A (letOwnedTupleGo target it v) (fun _ s₁' => wpAny (model prog w) A (assign target env v) (fun _ s₂ =>
          wpAny (model prog w) A (forIn ifs true fun c r => if r = true then do let ok ← isTrue c env (eval c env); pure (ForInStep.yield ok) else pure (ForInStep.yield r)) (fun ok s₃ =>
            if ok = true then wpAny (model prog w) A (eval elt env) (fun x s₄ =>
              wpAny (model prog w) A (call (.builtin "list.append") [acc, x]) (fun _ s₅ => ∃ m, m < n ∧ I m s₅) XE s₄) XE s₃
            else ∃ m, m < n ∧ I m s₃) XE s₂) XE s₁') XE s₁) XE s)
    (n : Nat) (h : I n s) :
    codeAny (model prog w) A (.compLoop (.ListComp elt [⟨target, iter, ifs, 0⟩] scope pos) 0 it acc env) R s := by
  refine codeAny_loop rfl I (fun n s hI => ?_) n h
  show wpAny _ A ((compTurn (.ListComp elt [⟨target, iter, ifs, 0⟩] scope pos) 0 it acc env).onRaise (fun x => do noteFrame x env; theTreesLotGoes x)) _ _ s
  refine wpAny_noted (wpAny_mono (E := XE) ?_ (fun _ _ q => q) hN)
  rw [compTurn_list]
  refine wpAny_bind (wpAny_standAt (wpAny_bind (wpAny_mono (turn n s hI) (fun r s₁ h₁ => ?_) fun _ _ h' => h')))
  cases r with
  | none => exact wpAny_pure h₁
  | some v =>
    refine wpAny_bind (wpAny_mono h₁ (fun _ s₁' h₁' => ?_) fun _ _ h' => h')
    refine wpAny_bind (wpAny_mono h₁' (fun _ s₂ h₂ => wpAny_bind (wpAny_mono h₂ (fun ok s₃ h₃ => ?_) fun _ _ h' => h')) fun _ _ h' => h')
    cases ok with
    | false => exact wpAny_pure ⟨rfl, h₃⟩
    | true =>
      exact wpAny_bind (wpAny_bind (wpAny_mono h₃ (fun x s₄ h₄ => wpAny_bind (wpAny_mono h₄ (fun _ s₅ h₅ => wpAny_pure (wpAny_pure ⟨rfl, h₅⟩)) fun _ _ h' => h')) fun _ _ h' => h'))
end

noncomputable def compCl (cells : List (Str × Addr)) : List (Str × NameKind) → List (Str × Addr) → List (Str × Addr)
  | [], acc => acc
  | (x, k) :: r, acc => compCl cells r (if (k == NameKind.free) = true then (match cells.lookup x with | some c => (x, c) :: acc | none => acc) else acc)
theorem closureFor_cl {scope : Scope} {env : Env} (h : ∀ y ∈ scope.names, y.2 = .free → ∃ c, env.cells.lookup y.1 = some c) : closureFor scope env = pure (compCl env.cells scope.names []) := by
  have key : ∀ (names : List (Str × NameKind)) (acc : List (Str × Addr)), (∀ y ∈ names, y.2 = .free → ∃ c, env.cells.lookup y.1 = some c) →
      (forIn names acc fun (x : Str × NameKind) (r : List (Str × Addr)) => if (x.2 == NameKind.free) = true then (do let c ← cellOf env x.1; pure (ForInStep.yield ((x.1, c) :: r))) else pure (ForInStep.yield r) : Sem (List (Str × Addr))) = pure (compCl env.cells names acc) := by
    intro names
    induction names with
    | nil => intro acc _; rfl
    | cons y r ih =>
      intro acc hy
      obtain ⟨x, k⟩ := y
      rw [List.forIn_cons]
      dsimp only
      have hr := fun z hz => hy z (List.mem_cons_of_mem _ hz)
      by_cases hk : (k == NameKind.free) = true
      · obtain ⟨c, hc⟩ := hy (x, k) List.mem_cons_self (by simpa using hk)
        have hc : env.cells.lookup x = some c := hc
        have e1 : cellOf env x = pure c := by unfold cellOf; rw [hc]
        rw [if_pos hk, e1]
        simp only [pure_bind]
        rw [ih _ hr, compCl, if_pos hk, hc]
      · rw [if_neg hk]
        simp only [pure_bind]
        rw [ih _ hr, compCl, if_neg hk]
  have e := key scope.names [] h
  simp only [closureFor]
  rw [show (forIn scope.names [] fun (x : Str × NameKind) (r : List (Str × Addr)) => _ : Sem (List (Str × Addr))) = _ from e]
  rfl
theorem compCl_lookup {cells : List (Str × Addr)} {x : Str} {c : Addr} : ∀ {names : List (Str × NameKind)} {acc : List (Str × Addr)}, (compCl cells names acc).lookup x = some c → (acc.lookup x = some c) ∨ cells.lookup x = some c
  | [], acc, h => .inl h
  | (y, k) :: r, acc, h => by
    rw [compCl] at h
    rcases compCl_lookup h with h | h
    · split at h
      · cases e : cells.lookup y with
        | none => rw [e] at h; exact .inl h
        | some c' =>
          rw [e] at h
          simp only [List.lookup_cons] at h
          by_cases hxy : x = y
          · subst hxy
            simp at h
            subst h
            exact .inr e
          · have hf : (x == y) = false := by simpa using hxy
            rw [hf] at h
            exact .inl h
      · exact .inl h
    · exact .inr h
theorem compCl_keeps {cells : List (Str × Addr)} {x : Str} {c : Addr} (hc : cells.lookup x = some c) : ∀ {names : List (Str × NameKind)} {acc : List (Str × Addr)}, acc.lookup x = some c → (compCl cells names acc).lookup x = some c
  | [], acc, h => h
  | (y, k) :: r, acc, h => by
    rw [compCl]
    refine compCl_keeps hc ?_
    split
    · cases e : cells.lookup y with
      | none => exact h
      | some c' =>
        show List.lookup x ((y, c') :: acc) = some c
        simp only [List.lookup_cons]
        cases hx : x == y with
        | true =>
          have : x = y := by simpa using hx
          subst this
          rw [hc] at e; cases e; rfl
        | false => exact h
    · exact h
theorem compCl_has {cells : List (Str × Addr)} {x : Str} {c : Addr} (hc : cells.lookup x = some c) : ∀ {names : List (Str × NameKind)} {acc : List (Str × Addr)}, (x, NameKind.free) ∈ names → (compCl cells names acc).lookup x = some c
  | [], _, h => by simp at h
  | (y, k) :: r, acc, h => by
    rw [compCl]
    rcases List.mem_cons.mp h with e | h
    · cases e
      refine compCl_keeps hc ?_
      rw [if_pos (by decide), hc]
      simp [List.lookup_cons]
    · exact compCl_has hc h

theorem relabel_lookup {scope : Scope} {env : Env} {x : Str} {k : NameKind} (h : (relabel scope env).names.lookup x = some k) :
    (scope.names.lookup x = some k ∧ k ≠ .free) ∨ (scope.names.lookup x = some .free ∧ (k = .free ∨ (k = .cell ∧ env.kindOf x = some .cell))) := by
  have key : ∀ (names : List (Str × NameKind)), (names.map fun (n, k) => if (k == NameKind.free && env.scope.kind == .function && env.kindOf n == some .cell) then (n, NameKind.cell) else (n, k)).lookup x = some k →
      (names.lookup x = some k ∧ k ≠ .free) ∨ (names.lookup x = some .free ∧ (k = .free ∨ (k = .cell ∧ env.kindOf x = some .cell))) := by
    intro names
    induction names with
    | nil => intro h; simp at h
    | cons y r ih =>
      intro h
      obtain ⟨n, k'⟩ := y
      simp only [List.map_cons] at h
      by_cases hc : (k' == NameKind.free && env.scope.kind == .function && env.kindOf n == some .cell) = true
      · rw [if_pos hc] at h
        simp only [List.lookup_cons] at h ⊢
        cases hx : x == n with
        | true =>
          rw [hx] at h
          cases h
          have e : x = n := by simpa using hx
          subst e
          simp only [Bool.and_eq_true, beq_iff_eq] at hc
          exact .inr ⟨by rw [hc.1.1], .inr ⟨rfl, hc.2⟩⟩
        | false => rw [hx] at h; exact ih h
      · rw [if_neg hc] at h
        simp only [List.lookup_cons] at h ⊢
        cases hx : x == n with
        | true =>
          rw [hx] at h
          cases h
          by_cases hf : k = .free
          · subst hf; exact .inr ⟨rfl, .inl rfl⟩
          · exact .inl ⟨rfl, hf⟩
        | false => rw [hx] at h; exact ih h
  exact key scope.names h
theorem relabel_cell {scope : Scope} {env : Env} {x : Str} (hk : env.scope.kind = .function) (h : scope.names.lookup x = some .free) (he : env.kindOf x = some .cell) : (relabel scope env).names.lookup x = some .cell := by
  have key : ∀ (names : List (Str × NameKind)), names.lookup x = some .free →
      (names.map fun (n, k) => if (k == NameKind.free && env.scope.kind == .function && env.kindOf n == some .cell) then (n, NameKind.cell) else (n, k)).lookup x = some .cell := by
    intro names
    induction names with
    | nil => intro h; simp at h
    | cons y r ih =>
      intro h
      obtain ⟨n, k'⟩ := y
      simp only [List.map_cons]
      simp only [List.lookup_cons] at h
      cases hx : x == n with
      | true =>
        rw [hx] at h
        cases h
        have e : x = n := by simpa using hx
        subst e
        rw [if_pos (by simp [hk, he])]
        simp [List.lookup_cons]
      | false =>
        rw [hx] at h
        by_cases hc : (k' == NameKind.free && env.scope.kind == .function && env.kindOf n == some .cell) = true
        · rw [if_pos hc]; simp only [List.lookup_cons, hx]; exact ih h
        · rw [if_neg hc]; simp only [List.lookup_cons, hx]; exact ih h
  exact key scope.names h

noncomputable def cxC (X : Cx) (Nc : List Str) (scope : Scope) (C : Addr) (s0 : Shared) (H0 : Hp) (fp : List Addr) : Cx :=
  { X with N := Nc, s₀ := s0, H₀ := H0, env := compEnvC scope (compCl X.env.cells scope.names []) C X.env, outer := X.stack, stack := X.stack, ex := fp, fn := fun _ => false, pn := [], xe := fun _ _ => False }
noncomputable def cxCE (X : Cx) (Nc : List Str) (scope : Scope) (C : Addr) (s0 : Shared) (H0 : Hp) (fp : List Addr) (xe : Value → Shared → Prop) : Cx := { cxC X Nc scope C s0 H0 fp with xe := xe }
noncomputable def capσ (cap : List (Nat × Str)) (σ : St) : St := cap.map fun p => (σ[p.1]?).getD none
noncomputable def blk (cap : List (Nat × Str)) (own : Nat) (σ : St) : St := capσ cap σ ++ List.replicate own none
noncomputable def PF (X : Cx) (ifs : List Expr) (t : TT) : Prop :=
  ∀ (pins : List (Addr × Obj)) (s : Shared) (σ : St) (H : Hp) (Q : Bool → Hp → Prop), Inv X pins σ H s → t σ H Q →
    wpAny (model X.prog X.w) X.A (forIn ifs true fun c r => if r = true then do let ok ← isTrue c X.env (eval c X.env); pure (ForInStep.yield ok) else pure (ForInStep.yield r)) (TP X pins σ Q) X.xe s
noncomputable def tTrue : TT := fun _ H Q => Q true H
theorem pf_nil {X : Cx} : PF X [] tTrue := fun _ _ _ H _ I h => wpAny_tests_nil ⟨H, I, h⟩
noncomputable def tComp (cap : List (Nat × Str)) (own : Nat) (wi : TI) (g : TG) (tc : TT) (te : TE) : TE := fun σ H Q => wi σ H fun J H1 => ∀ D, H1 D = none →
  ∃ W : Nat → Nat → List V → Hp → Prop, (∃ m, W 0 m [] (upd H1 D (.lst []))) ∧ ∀ i m ys H, W i m ys H → H D = some (.lst ys) ∧
    ((J.stop i H ∧ Q (.ref D) H) ∨ (J.go i H ∧ ∀ x H', J.yld i H x H' → g x (blk cap own σ) H' fun σ2 H2 =>
      (σ2.take cap.length = capσ cap σ ∧ σ2.length = cap.length + own) ∧ tc σ2 H2 fun b H3 =>
        if b = true then te σ2 H3 fun v H4 => H4 D = some (.lst ys) ∧ ys.length < sizeLine ∧ ∃ m', m' < m ∧ W (i + 1) m' (ys ++ [v]) (upd H4 D (.lst (ys ++ [v])))
        else ∃ m', m' < m ∧ W (i + 1) m' ys H3))

structure CompOk (X : Cx) (scope : Scope) (cap : List (Nat × Str)) (own : List Str) : Prop where
  kind : scope.kind = .function
  cell : ∀ y ∈ scope.names, y.2 ≠ .cell
  names : ∀ y ∈ scope.names, y.2 = .local → scope.names.lookup y.1 = some .local
  free : ∀ y ∈ scope.names, y.2 = .free → X.env.scope.names.lookup y.1 = some .cell ∧ scope.names.lookup y.1 = some .free
  hcap : ∀ p ∈ cap, X.N[p.1]? = some p.2
  hown : ∀ x ∈ own, scope.names.lookup x ≠ some .free
  hcapf : ∀ p ∈ cap, scope.names.lookup p.2 = some .free

structure TurnZ (Z : Cx → Prop) (P : Program) (w : World) (K : PySem.W.Frag) (tg : Expr) (J : It) (fp : List Addr) (it : Addr) (tn : Nat → Heap → Prop) : Prop where
  obj : ∀ i h, tn i h → ∀ b ∈ fp, ∃ o, h.get? b = some o ∧ ∀ v, o.data ≠ .cell v
  keep : ∀ i h h', tn i h → (∀ b ∈ fp, ∀ o, h.get? b = some o → h'.get? b = some o) → tn i h'
  item : ∀ (X : Cx), X.prog = P → X.w = w → X.K = K → Z X → ∀ (i : Nat) (pins : List (Addr × Obj)) (s : Shared) (σ : St) (H : Hp) (E : Value → Shared → Prop), Inv X pins σ H s → (∀ b ∈ fp, FpOk X pins H b) → tn i s.heap → J.go i H →
    wpAny (model P w) X.A (pyNext (.ref it)) (fun r s1 => ∃ u, r = some u ∧
      wpAny (model P w) X.A (letOwnedTupleGo tg (.ref it) u) (fun _ s2 => ∃ x H', Inv X pins σ H' s2 ∧ RelV x u ∧ J.yld i H x H' ∧ tn (i + 1) s2.heap ∧ ∀ b ∈ fp, H' b = none) E s1) E s
  done : ∀ (X : Cx), X.prog = P → X.w = w → X.K = K → Z X → ∀ (i : Nat) (pins : List (Addr × Obj)) (s : Shared) (σ : St) (H : Hp) (E : Value → Shared → Prop), Inv X pins σ H s → (∀ b ∈ fp, FpOk X pins H b) → tn i s.heap → J.stop i H →
    wpAny (model P w) X.A (pyNext (.ref it)) (fun r s1 => r = none ∧ Inv X pins σ H s1) E s
  self : ∀ (A : Around) (i : Nat) (s : Shared) (Q : Value → Shared → Prop) (E : Value → Shared → Prop), tn i s.heap → Q (.ref it) s → wpAny (model P w) A (pyIter (.ref it)) Q E s
theorem Turn.toZ {P : Program} {w : World} {K : PySem.W.Frag} {tg : Expr} {J : It} {fp : List Addr} {it : Addr} {tn : Nat → Heap → Prop} (T : Turn P w K tg J fp it tn) : TurnZ (fun Y => Y.calm = true) P w K tg J fp it tn :=
  ⟨T.obj, T.keep, T.item, T.done, T.self⟩
section
variable {X : Cx} {pins : List (Addr × Obj)} {σ : St} {H : Hp} {s : Shared}
theorem comp_core {Z : Cx → Prop} {XE : Addr → Shared → Hp → Value → Shared → Prop} {elt target iter : Expr} {ifs : List Expr} {scope : Scope} {pos : Pos} {cap : List (Nat × Str)} {own : List Str} {g : TG} {tc : TT} {te : TE} {Qe : VK} {J : It} {fp : List Addr} {it : Addr} {tn : Nat → Heap → Prop} {E : Value → Shared → Prop}
    {RR : Value → Addr → Result → Shared → Prop} (hZ : ∀ (Nc : List Str) (C : Addr) (s0 : Shared) (H0 : Hp) (fp : List Addr), Z (cxCE X Nc scope C s0 H0 fp (XE C s0 H0))) (O : CompOk X scope cap own)
    (hb : ∀ (C : Addr) (s0 : Shared) (H0 : Hp), PG (cxCE X (cap.map (·.2) ++ own) scope C s0 H0 fp (XE C s0 H0)) target g ∧ PF (cxCE X (cap.map (·.2) ++ own) scope C s0 H0 fp (XE C s0 H0)) ifs tc ∧ PE (cxCE X (cap.map (·.2) ++ own) scope C s0 H0 fp (XE C s0 H0)) elt te)
    (I : Inv X pins σ H s) (T : TurnZ Z X.prog X.w X.K target J fp it tn) (st : tn 0 s.heap) (f : ∀ b ∈ fp, FpOk X pins H b)
    (hW : ∀ D, H D = none → ∃ W : Nat → Nat → List V → Hp → Prop, (∃ m, W 0 m [] (upd H D (.lst []))) ∧ ∀ i m ys H, W i m ys H → H D = some (.lst ys) ∧
      ((J.stop i H ∧ Qe (.ref D) H) ∨ (J.go i H ∧ ∀ x H', J.yld i H x H' → g x (blk cap own.length σ) H' fun σ2 H2 =>
        (σ2.take cap.length = capσ cap σ ∧ σ2.length = cap.length + own.length) ∧ tc σ2 H2 fun b H3 =>
          if b = true then te σ2 H3 fun v H4 => H4 D = some (.lst ys) ∧ ys.length < sizeLine ∧ ∃ m', m' < m ∧ W (i + 1) m' (ys ++ [v]) (upd H4 D (.lst (ys ++ [v])))
          else ∃ m', m' < m ∧ W (i + 1) m' ys H3)))
    (hN : ∀ D C s0 H0 e s', X.s₀.heap.objs.size ≤ C → C ∉ frs X.stack → (∀ pins' σ' H' s'', Inv (cxCE X (cap.map (·.2) ++ own) scope C s0 H0 fp (XE C s0 H0)) pins' σ' H' s'' → Inv X pins σ H' s'') → XE C s0 H0 e s' → notedBy (model X.prog X.w) X.A X.env (fun e s'' => RR (.ref D) C (.error e) s'') e s')
    (hRR : ∀ D C s4 m H', Inv X pins σ H' s4 → s4.heap.Ns C m → FpOk X pins H' C → Qe (.ref D) H' → RR (.ref D) C (.ok .next) s4) :
    wpAny (model X.prog X.w) X.A (newList []) (fun acc s₃ => wpAny (model X.prog X.w) X.A (newFunctionEnv scope X.env.globals (compCl X.env.cells scope.names []) [] X.env.qual none .none (some X.env)) (fun cenv s₄ =>
      codeAny (model X.prog X.w) X.A (.compStart (.ListComp elt [⟨target, iter, ifs, 0⟩] scope pos) 0 (.ref it) acc { cenv with scope := relabel scope X.env }) (RR acc cenv.locals) s₄) E s₃) E s := by
  have hD : H s.heap.objs.size = none := I.hok.fresh (Nat.le_refl _)
  obtain ⟨W, ⟨m0, w0⟩, turn⟩ := hW s.heap.objs.size hD
  refine wpAny_newObj_type (wpAny_newFunctionEnv O.cell (by intro y hy; simp at hy) (fun h₁ hns₁ hsb₁ => ?_) O.kind)
  dsimp only at hns₁ hsb₁ ⊢
  have I3 : Inv X pins σ (upd H s.heap.objs.size (.lst [])) { s with heap := s.heap.push { cls := .type "list", data := .seq ([] : List Value).toArray }, toks := s.toks } := I.lnew (its := []) .nil (Nat.zero_le _)
  generalize hH2 : s.heap.push { cls := .type "list", data := .seq ([] : List Value).toArray } = h2 at hns₁ hsb₁ I3 ⊢
  have hsz : h2.objs.size = s.heap.objs.size + 1 := by rw [← hH2, Heap.size_push]
  have hC : (upd H s.heap.objs.size (.lst [])) h2.objs.size = none := I3.hok.fresh (Nat.le_refl _)
  have old : ∀ b o, h2.get? b = some o → h₁.get? b = some o := fun b o e => hsb₁.extBut b o (Nat.ne_of_lt (Heap.lt_size e)) (Heap.get?_push_of_some _ e)
  -- the block's context
  let Y : Cx := cxCE X (cap.map (·.2) ++ own) scope h2.objs.size { s with heap := h2, toks := s.toks } (upd H s.heap.objs.size (.lst [])) fp (XE h2.objs.size { s with heap := h2, toks := s.toks } (upd H s.heap.objs.size (.lst [])))
  have fD : ∀ b ∈ fp, b < s.heap.objs.size := fun b hb' => by
    obtain ⟨o, e, _⟩ := T.obj _ _ st b hb'
    exact Heap.lt_size e
  have le2 : s.heap.objs.size ≤ h2.objs.size := by rw [hsz]; exact Nat.le_succ _
  have nC : ∀ b ∈ fp, b ≠ h2.objs.size := fun b hb' => Nat.ne_of_lt (Nat.lt_of_lt_of_le (fD b hb') le2)
  have f3 : ∀ b ∈ fp, FpOk X pins (upd H s.heap.objs.size (.lst [])) b := fun b hb' => by
    obtain ⟨z0, z⟩ := f b hb'
    exact ⟨by rw [upd_ne (Nat.ne_of_lt (fD b hb'))]; exact z0, z⟩
  have nstk : ∀ b ∈ fp, b ∉ frs X.stack := fun b hb' z => by
    obtain ⟨_, z1, z2, _⟩ := f b hb'
    rcases List.mem_cons.mp (I.stkSub b z) with q | q
    · exact z1 q
    · exact z2 q
  have hkf : X.env.scope.kind = .function := I.ok.kind
  have clk : ∀ x c, (compCl X.env.cells scope.names []).lookup x = some c → X.env.cells.lookup x = some c := fun x c e => by
    rcases compCl_lookup e with q | q
    · simp at q
    · exact q
  have clh : ∀ x, scope.names.lookup x = some .free → ∃ c, X.env.cells.lookup x = some c ∧ (compCl X.env.cells scope.names []).lookup x = some c := fun x e => by
    have hm := PySem.mem_of_lookup e
    obtain ⟨c, hc'⟩ := I.ok.has x (.inl (O.free _ hm rfl).1)
    exact ⟨c, hc', compCl_has hc' hm⟩
  have okY : Y.Ok := by
    refine ⟨I.ok.mod, O.kind, I.ok.glob, I.ok.blt, Nat.le_refl _, fun x y c h1 h2' => I.ok.inj x y c (clk x c h1) (clk y c h2'), fun x hx => ?_, fun x c hf => absurd hf Bool.false_ne_true, I.ok.hd, I.ok.frames, .inl rfl, fun b hb' => ?_, I3.bs, Nat.le_trans I.ok.bsz I3.sz, fun b o e hb' => ?_, nstk, I3.stack, I3.stkFree⟩
    · have hx : (relabel scope X.env).names.lookup x = some .cell ∨ (relabel scope X.env).names.lookup x = some .free := hx
      have : scope.names.lookup x = some .free := by
        rcases hx with hx | hx
        · rcases relabel_lookup hx with ⟨q, _⟩ | ⟨q, _⟩
          · exact absurd rfl (O.cell _ (PySem.mem_of_lookup q))
          · exact q
        · rcases relabel_lookup hx with ⟨_, q⟩ | ⟨q, _⟩
          · exact absurd rfl q
          · exact q
      obtain ⟨c, _, e⟩ := clh x this
      exact ⟨c, e⟩
    · exact ⟨fun z => nC b hb' z, fun x c e => (f b hb').2.2.2.2.1 x c (clk x c e)⟩
    · rcases (f b hb').2.2.2.1 with q | q
      · exact I.ok.noex b o e q
      · exact absurd (Nat.lt_of_lt_of_le (Heap.lt_size e) (Nat.le_trans I.ok.bsz q)) (Nat.lt_irrefl _)
  have lenσ : (blk cap own.length σ).length = cap.length + own.length := by unfold blk capσ; simp
  have IY : Inv Y [] (blk cap own.length σ) (upd H s.heap.objs.size (.lst [])) { s with heap := h₁, toks := s.toks + ([] : List (Str × Value)).length } := by
    refine ⟨okY, rfl, I3.bare, Un.kept old, ⟨_, hns₁, fun i x v e1 e2 e3 => ?_⟩, fun x c e => ?_, hC, fun x c e => I3.freeC x c (clk x c e), fun p hp => absurd (show p ∈ ([] : List (Addr × Obj)) from hp) (by simp), I3.hok.kept old, by rw [lenσ]; show _ = (cap.map (·.2) ++ own).length; simp⟩
    · have hi : i < cap.length := by
        by_cases hi : i < cap.length
        · exact hi
        · unfold blk at e2
          rw [List.getElem?_append_right (by unfold capσ; simpa using hi), List.getElem?_replicate] at e2
          split at e2 <;> cases e2
      have e1 : (cap.map (·.2) ++ own)[i]? = some x := e1
      rw [List.getElem?_append_left (by simpa using hi), List.getElem?_map] at e1
      unfold blk capσ at e2
      rw [List.getElem?_append_left (by simpa using hi), List.getElem?_map] at e2
      obtain ⟨p, hp⟩ : ∃ p, cap[i]? = some p := ⟨_, List.getElem?_eq_getElem hi⟩
      rw [hp] at e1 e2
      have e1 : p.2 = x := Option.some.inj e1
      have e2 : (σ[p.1]?).getD none = some v := Option.some.inj e2
      have hm := List.mem_of_getElem? hp
      have hN := O.hcap p hm
      have e2' : σ[p.1]? = some (some v) := by
        cases q : σ[p.1]? with
        | none => rw [q] at e2; cases e2
        | some z => rw [q] at e2; exact congrArg some e2
      have hfr := O.hcapf p hm
      have hcl := O.free _ (PySem.mem_of_lookup hfr) rfl
      subst e1
      obtain ⟨m3, hn3, hl3⟩ := I3.loc
      obtain ⟨u, r, l⟩ := hl3 p.1 p.2 v hN e2' (.inr (.inl hcl.1))
      refine ⟨u, r, .inr ⟨.inl (relabel_cell hkf hfr hcl.1), ?_⟩⟩
      rcases l with ⟨l, _⟩ | ⟨_, c, hc', z⟩
      · have l : X.env.scope.names.lookup p.2 = some .local := l
        rw [hcl.1] at l; cases l
      · obtain ⟨c', h1, h2'⟩ := clh p.2 hfr
        have h1 : X.env.cells.lookup p.2 = some c' := h1
        rw [hc'] at h1; cases h1
        obtain ⟨oc, ho, hd⟩ := z
        exact ⟨c, h2', oc, old _ _ ho, hd⟩
    · obtain ⟨v, oc, ho, hd⟩ := I3.cell x c (clk x c e)
      exact ⟨v, oc, old _ _ ho, hd⟩
  have st1 : tn 0 h₁ := T.keep _ _ _ st fun b _ o e => old b o (by rw [← hH2]; exact Heap.get?_push_of_some _ e)
  have stat : ∀ {H' : Hp}, (∀ b ∈ fp, H' b = none) → ∀ b ∈ fp, FpOk Y [] H' b := fun hn b hb' =>
    ⟨hn b hb', fun z => nC b hb' z, nstk b hb', .inl hb', fun x c e => (f b hb').2.2.2.2.1 x c (clk x c e), fun p hp => absurd (show p ∈ ([] : List (Addr × Obj)) from hp) (by simp)⟩
  have cvt : ∀ b ∈ fp, (b ∈ X.ex ∨ X.s₀.heap.objs.size ≤ b) ∧ b ≠ X.env.locals ∧ (∀ x c, X.env.cells.lookup x = some c → c ≠ b) ∧ ∀ p ∈ X.pn ++ pins, p.1 ≠ b := fun b hb' => by
    obtain ⟨_, z1, _, z3, z4, z5⟩ := f b hb'
    exact ⟨z3, z1, z4, z5⟩
  have loop : codeAny (model X.prog X.w) X.A (.compLoop (.ListComp elt [⟨target, iter, ifs, 0⟩] scope pos) 0 (.ref it) (.ref s.heap.objs.size) Y.env)
      (RR (.ref s.heap.objs.size) h2.objs.size) { s with heap := h₁, toks := s.toks + ([] : List (Str × Value)).length } := by
    refine comp_loop (XE := XE h2.objs.size { s with heap := h2, toks := s.toks } (upd H s.heap.objs.size (.lst []))) (fun e s' hx => hN _ _ _ _ e s' (Nat.le_trans I3.sz (Nat.le_refl _)) (fun m => by obtain ⟨_, o, ho, _⟩ := I3.stack.mem m; exact absurd (Heap.lt_size ho) (Nat.lt_irrefl _)) (fun pins' σ' H' s'' IY' => I3.call' (s' := s'') (ch := fp) IY'.os IY'.base IY'.hok IY'.bare fun b hb' => cvt b hb') hx) (fun n s' => ∃ i ys H', Inv Y [] (blk cap own.length σ) H' s' ∧ tn i s'.heap ∧ (∀ b ∈ fp, H' b = none) ∧ W i n ys H') ?_ m0 ⟨0, [], _, IY, st1, fun b hb' => (f3 b hb').1, w0⟩
    rintro n s' ⟨i, ys, H', I', st', fr', w'⟩
    obtain ⟨hD', alt⟩ := turn i n ys H' w'
    rcases alt with ⟨stop, q⟩ | ⟨go, step⟩
    · refine wpAny_mono (T.done Y rfl rfl rfl (hZ _ _ _ _ _) i [] s' _ H' Y.xe I' (stat fr') st' stop) (fun r s4 ⟨hr, I4⟩ => ?_) fun _ _ z => z
      subst hr
      obtain ⟨m, hn, _⟩ := I4.loc
      refine hRR s.heap.objs.size h2.objs.size s4 m H' ?_ hn ?_ q
      · refine I3.call' (s' := s4) (ch := fp) I4.os I4.base I4.hok I4.bare fun b hb' => ?_
        obtain ⟨_, z1, _, z3, z4, z5⟩ := f b hb'
        exact ⟨z3, z1, z4, z5⟩
      · exact I3.fpOk (Nat.le_refl _) I4.free
    · refine wpAny_mono (T.item Y rfl rfl rfl (hZ _ _ _ _ _) i [] s' _ H' Y.xe I' (stat fr') st' go) (fun r s4 ⟨u, hr, h4⟩ => ?_) fun _ _ z => z
      subst hr
      refine wpAny_mono h4 (fun _ s5 ⟨x, H5, I5, r5, y5, st5, fr5⟩ => ?_) fun _ _ z => z
      have I5' := I5.pinned (stat fr5) (T.obj _ _ st5)
      obtain ⟨pg, pf, pe⟩ := hb h2.objs.size { s with heap := h2, toks := s.toks } (upd H s.heap.objs.size (.lst []))
      refine wpAny_mono (pg _ s5 _ H5 x u _ I5' r5 (step x H5 y5)) (fun _ s6 ⟨σ6, H6, I6, ⟨tk6, ln6⟩, q6⟩ => ?_) fun _ _ z => z
      have back : ∀ {s9 : Shared} {H9 : Hp}, Inv Y ([] ++ pinsAt fp s5.heap) σ6 H9 s9 → ∀ {m' : Nat} {ys' : List V}, m' < n → W (i + 1) m' ys' H9 → ∃ m, m < n ∧ ∃ i ys H', Inv Y [] (blk cap own.length σ) H' s9 ∧ tn i s9.heap ∧ (∀ b ∈ fp, H' b = none) ∧ W i m ys H' := by
        intro s9 H9 I9 m' ys' hm w9
        refine ⟨m', hm, i + 1, ys', H9, I9.unpinned.weak ?_ (fun j v e => ?_), T.keep _ _ _ st5 fun b hb' o e => (I9.pin (b, o) (List.mem_append_right _ (List.mem_append_right _ (mem_pinsAt hb' e)))).1, fun b hb' => ?_, w9⟩
        · rw [lenσ, ln6]
        · have hj : j < cap.length := by
            by_cases hj : j < cap.length
            · exact hj
            · unfold blk at e
              rw [List.getElem?_append_right (by unfold capσ; simpa using hj), List.getElem?_replicate] at e
              split at e <;> cases e
          unfold blk at e
          rw [List.getElem?_append_left (by unfold capσ; simpa using hj), ← tk6, List.getElem?_take_of_lt hj] at e
          exact e
        · obtain ⟨o, e, d⟩ := T.obj _ _ st5 b hb'
          exact (I9.pin (b, o) (List.mem_append_right _ (List.mem_append_right _ (mem_pinsAt hb' e)))).2.1
      refine wpAny_mono (pf _ s6 σ6 H6 _ I6 q6) (fun ok s7 ⟨H7, I7, q7⟩ => ?_) fun _ _ z => z
      cases ok with
      | false =>
        rw [if_neg Bool.false_ne_true] at q7 ⊢
        obtain ⟨m', hm, w7⟩ := q7
        exact back I7 hm w7
      | true =>
        rw [if_pos rfl] at q7 ⊢
        refine wpAny_mono (pe _ s7 σ6 H7 _ I7 q7) (fun y s8 ⟨v, H8, I8, r8, hD8, hl8, m', hm, w8⟩ => ?_) fun _ _ z => z
        refine wpAny_mono (mt_append (X := Y) _ s8 σ6 H8 (.ref s.heap.objs.size) [v] (.ref s.heap.objs.size) [y] (fun _ H9 => H9 = upd H8 s.heap.objs.size (.lst (ys ++ [v]))) I8 rfl (.cons r8 .nil) ⟨_, ys, v, rfl, rfl, hD8, hl8, rfl⟩) (fun z s9 ⟨v9, H9, I9, r9, e9⟩ => ?_) fun _ _ z => z
        subst e9
        exact back I9 hm w8
  exact codeAny_compStart_list loop (T.self X.A 0 _ _ _ st1 loop)

theorem pe_comp {elt target iter : Expr} {ifs : List Expr} {scope : Scope} {pos : Pos} {cap : List (Nat × Str)} {own : List Str} {wi : TI} {g : TG} {tc : TT} {te : TE} (hc : X.calm = true) (O : CompOk X scope cap own) (hi : PI X target iter wi)
    (hb : ∀ (C : Addr) (s0 : Shared) (H0 : Hp) (fp : List Addr), PG (cxC X (cap.map (·.2) ++ own) scope C s0 H0 fp) target g ∧ PF (cxC X (cap.map (·.2) ++ own) scope C s0 H0 fp) ifs tc ∧ PE (cxC X (cap.map (·.2) ++ own) scope C s0 H0 fp) elt te)
    (hs : ∀ x, foldedSetIterable iter X.env x = pure x := by intro _; rfl) :
    PE X (.ListComp elt [⟨target, iter, ifs, 0⟩] scope pos) (tComp cap own.length wi g tc te) := by
  intro pins s σ H Q I h
  rw [eval_ListComp]
  have hclos : closureFor scope X.env = pure (compCl X.env.cells scope.names []) := closureFor_cl fun y hy hf => I.ok.has y.1 (.inl (O.free y hy hf).1)
  refine wpAny_comprehension_free (use := none) rfl hs hclos O.kind O.names (thn (hi pins s σ H _ I h) fun v s1 h1 => thn h1 fun itv s2 h2 => ?_)
  obtain ⟨it, fp, tn, J, H2, rfl, I2, T, st2, f2, hR⟩ := h2
  refine comp_core (RR := fun acc C => compPost (model X.prog X.w) X.A X.xe none (EP X pins σ Q) acc C) (Z := fun Y => Y.calm = true) (XE := fun _ _ _ _ _ => False) (fun _ _ _ _ _ => hc) O (fun C s0 H0 => hb C s0 H0 fp) I2 T.toZ st2 f2 hR (fun _ _ _ _ _ _ _ _ _ z => z.elim) ?_
  intro D C s4 m H' I4 hn fC q
  obtain ⟨z0, z1, z2, z3, z4, z5⟩ := fC
  refine ⟨m, hn, fun h' hs' => ⟨.ref D, H', I4.turned (t' := s4.toks) (fun b o hb' e => hs'.extBut b o hb' e) z0 z1 z3 z4 z5, rfl, q⟩⟩
end
end L2

set_option genSizeOf false
set_option genInjectivity false
namespace FxS
open PySem
noncomputable abbrev Rs (xs : Array Nat) : Prop := xs.toList.Pairwise (· < ·)
structure TabOk (led : Bool) (t : SetTable) : Prop where
  led : t.led = led
  dm : t.dummies = #[]
  rs : t.plain = true → Rs t.place
theorem TabOk.fresh (led : Bool) (f m : Nat) : TabOk led (SetTable.fresh f m led) := ⟨rfl, rfl, fun _ => List.Pairwise.nil⟩
end FxS

set_option genSizeOf false
set_option genInjectivity false
namespace FxS
open PySem
section
variable {prog : Program} {w : World}
variable {A : Around} {E : Value → Shared → Prop} {s : Shared}
end
end FxS

set_option genSizeOf false
set_option genInjectivity false
namespace FxS
open PySem
section
variable {prog : Program} {w : World} {A : Around} {E : Value → Shared → Prop} {s : Shared}
end
end FxS

set_option genSizeOf false
set_option genInjectivity false
namespace FxS
open PySem
section
variable {prog : Program} {w : World} {A : Around} {E : Value → Shared → Prop} {s : Shared} {o : Obj} {es : Array (Int × Value)} {ep : Nat} {t : SetTable} {a I : Addr} {i : Nat} {ord : List Value}
end
end FxS

set_option genSizeOf false
set_option genInjectivity false
namespace FxS
open PySem
section
variable {prog : Program} {w : World} {A : Around} {E : Value → Shared → Prop} {s : Shared} {o : Obj} {es : Array (Int × Value)} {ep : Nat} {t : SetTable} {a I : Addr}
end
end FxS

set_option genSizeOf false
set_option genInjectivity false
namespace FxS
open PySem PyProof.Rows
section
variable {prog : Program} {w : World} {A : Around} {R : Result → Shared → Prop} {I : Addr} {fp wr : List Addr} {G : Array GenState → Array GenState → Prop} {n : Nat} {P : Nat → Value → Prop} {St : Nat → Shared → Prop}
structure Met (val : Nat → Int) (i : Nat) (ms : List Int) : Prop where
  nd : ms.Nodup
  le : ms.length ≤ i
  mem : ∀ k, k ∈ ms ↔ ∃ j, j < i ∧ val j = k
theorem Met.zero (val : Nat → Int) : Met val 0 [] := ⟨List.nodup_nil, Nat.le_refl _, fun k => by simp⟩
theorem Met.next {val : Nat → Int} {i : Nat} {ms ms' : List Int} (m : Met val i ms) (h : ms'.Perm (if val i ∈ ms then ms else ms ++ [val i])) : Met val (i + 1) ms' := by
  by_cases c : val i ∈ ms
  · rw [if_pos c] at h
    refine ⟨h.nodup_iff.mpr m.nd, by rw [h.length_eq]; exact Nat.le_succ_of_le m.le, fun k => ?_⟩
    rw [h.mem_iff, m.mem k]
    constructor
    · rintro ⟨j, h1, h2⟩; exact ⟨j, by omega, h2⟩
    · rintro ⟨j, h1, h2⟩
      by_cases e : j = i
      · subst e; rw [← h2]; exact (m.mem _).mp c
      · exact ⟨j, by omega, h2⟩
  · rw [if_neg c] at h
    refine ⟨h.nodup_iff.mpr (List.nodup_append.mpr ⟨m.nd, by simp, fun x hx y hy z => c ?_⟩), ?_, fun k => ?_⟩
    · rw [List.mem_singleton.mp hy] at z; rw [← z]; exact hx
    · rw [h.length_eq, List.length_append, List.length_singleton]; have := m.le; omega
    · rw [h.mem_iff, List.mem_append, m.mem k, List.mem_singleton]
      constructor
      · rintro (⟨j, h1, h2⟩ | e)
        · exact ⟨j, by omega, h2⟩
        · exact ⟨i, by omega, e.symm⟩
      · rintro ⟨j, h1, h2⟩
        by_cases e : j = i
        · subst e; exact .inr h2.symm
        · exact .inl ⟨j, by omega, h2⟩
end
end FxS

set_option genSizeOf false
set_option genInjectivity false
namespace FxS
open PySem PyProof.Rows
section
variable {prog : Program} {w : World} {A : Around} {E : Value → Shared → Prop} {s : Shared}
end
end FxS

set_option genSizeOf false
set_option genInjectivity false
namespace FxS
open PySem PyProof.Rows
section
variable {prog : Program} {w : World} {A : Around} {E : Value → Shared → Prop} {s : Shared}
end
end FxS

set_option genSizeOf false
set_option genInjectivity false
namespace L2
open PySem PySem.Spec PyProof.Rows
section
variable {X : Cx}

noncomputable def CDivB (_ j : Int) : Prop := 0 < j ∧ j < 2 ^ 200
theorem op_fdivB : OpR X (binaryOp .FloorDiv) (rI CDivB fun i j => .int (i / j)) := opI fun i j _ _ _ _ _ hc q => by
  have h1 : (0 : Int) < j := hc.1
  have h2 : j < 2 ^ 200 := hc.2
  have h3 : j.natAbs.log2 < 9000 := by
    have h0 : j.natAbs ≠ 0 := by omega
    have h4 : j.natAbs < 2 ^ 200 := by
      have : ((j.natAbs : Nat) : Int) < ((2 ^ 200 : Nat) : Int) := by
        rw [Int.natAbs_of_nonneg (by omega)]
        exact h2
      exact Int.ofNat_lt.mp this
    exact Nat.lt_of_lt_of_le ((Nat.log2_lt h0).mpr h4) (by decide)
  exact floordiv_int (by omega) (by rw [Int.fdiv_eq_ediv_of_nonneg i (by omega)]; exact q) (.inl (PyProof.noPylong_of_log2 h3))

noncomputable def kitB0 (T T' : String) : Option Bool := if (T == T') = true then some true else if PySem.W.kitMeta T' = true then (fastBuiltinMro T).map (·.contains (.type T')) else none
theorem kitB {K : PySem.W.Frag} {T T' : String} {b : Bool} (h : kitB0 T T' = some b) : PySem.W.kitOne K (.type T) (.type T') = some b := by
  unfold kitB0 at h
  unfold PySem.W.kitOne
  by_cases e : T = T'
  · subst e
    rw [if_pos (by simp)] at h ⊢
    exact h
  · rw [if_neg (by simpa using e)] at h
    rw [if_neg (by simpa using e)]
    exact h
theorem call_isi : CallR X (.builtin "isinstance") (fun xs H Q => ∃ x T t b, xs = [x, .ty T] ∧ TyOf X.K H x t ∧ PySem.W.kitOne X.K t (.type T) = some b ∧ Q (.bl b) H) := by
  intro pins s σ H xs us Q I r h
  obtain ⟨x, T, t, b, rfl, ty, e, q⟩ := h
  obtain ⟨u, c, rfl, rx, rc⟩ := vals2 r
  cases (show c = Value.type T from rc)
  exact isinst_ok I rx ty e fun tk => ⟨.bl b, H, I.tok tk, rfl, q⟩
noncomputable def rngL (a c : Int) (n : Nat) : List Int := (List.range n).map fun (i : Nat) => a + (i : Int) * c
theorem ItemsOf.vals {a c : Int} {acc : Array Value} {n : Nat} (h : ItemsOf (fun i v => ∃ t, v = .int (a + i * c) t) acc n) : Vals ((rngL a c n).map V.int) acc.toList := by
  have key : ∀ (vs : List Value) (k : Nat), (∀ j v, vs[j]? = some v → ∃ t, v = Value.int (a + ((k + j : Nat) : Int) * c) t) → Vals ((List.range' k vs.length).map fun (i : Nat) => V.int (a + (i : Int) * c)) vs := by
    intro vs
    induction vs with
    | nil => intro k _; exact .nil
    | cons v r ih =>
      intro k hv
      rw [List.length_cons, List.range'_succ, List.map_cons]
      refine .cons (hv 0 v rfl) (ih (k + 1) fun j w e => ?_)
      obtain ⟨t, ht⟩ := hv (j + 1) w e
      exact ⟨t, by rw [ht, show k + (j + 1) = k + 1 + j by omega]⟩
  have h1 := key acc.toList 0 fun j v e => by
    obtain ⟨t, ht⟩ := h.2 j v (by rw [← Array.getElem?_toList]; exact e)
    exact ⟨t, by rw [ht, Nat.zero_add]⟩
  have hl : acc.toList.length = n := by rw [Array.length_toList]; exact h.1
  rw [hl] at h1
  unfold rngL
  rw [List.map_map, List.range_eq_range']
  exact h1
theorem isL_lt {h : Heap} {p : Addr} {its : Array Value} (x : h.IsList p its) : p < h.objs.size := let ⟨_, e, _⟩ := x; Heap.lt_size e
theorem it_new {pins : List (Addr × Obj)} {σ : St} {H : Hp} {s s' : Shared} {o : Obj} (I : Inv X pins σ H s) (hm : Moved [s.heap.objs.size] (fun a b => b = a) { s with heap := s.heap.push o } s') : Inv X pins σ H s' := by
  rw [Moved.eq_with hm]
  exact I.kept (h' := s'.heap) (t' := s'.toks) fun b ob e => hm.heap b ob (by simpa using Nat.ne_of_lt (Heap.lt_size e)) (Heap.get?_push_of_some _ e)
theorem call_sumI (hc : X.calm = true) : CallR X (.builtin "sum") (fun xs H Q => ∃ (p : Addr) (ns : List Int), xs = [.ref p] ∧ SqL X.K H p (ns.map V.int) ∧ Q (.int ns.sum) H) := by
  intro pins s σ H xs us Q I r h
  obtain ⟨p, ns, rfl, hq, q⟩ := h
  obtain ⟨u, rfl, ru⟩ := vals1 r
  cases ru
  obtain ⟨its, rv, pl, hz⟩ := I.list hq
  have hi := intsAre_of rv
  have hl := hi.length
  refine call_sum_walkAnyS (wpAny_pyIter_list pl.isList ?_)
  have hne : p ≠ s.heap.objs.size := Nat.ne_of_lt (isL_lt pl.isList)
  refine ⟨s.heap.objs.size, _, _, _, its.toArray.size, _, _, fun i => ns.getD i 0, rfl, (Walks.list (prog := X.prog) (w := X.w) (A := X.A.in1) (I.ok.hd hc) s.heap.objs.size p hne its.toArray).toS, ⟨⟨_, Heap.get?_push_size _ rfl, rfl, rfl⟩, pl.isList.push _⟩, fun b hb => ?_, fun i v e => ?_, fun s' t' hm => ?_⟩
  · rw [Heap.size_push]
    rcases List.mem_cons.mp hb with e | hb
    · rw [e]; exact Nat.lt_succ_self _
    · rw [List.mem_singleton.mp hb]; exact Nat.lt_succ_of_lt (isL_lt pl.isList)
  · exact hi.int_at i v (by simpa using e)
  · refine ⟨.int ns.sum, H, it_new I hm, ⟨t', ?_⟩, q⟩
    rw [preSum_getD, List.size_toArray, List.take_of_length_le (by omega)]
theorem all_range (bs : List Bool) : (List.range bs.length).all (fun i => bs.getD i false) = bs.all id := by
  rw [Bool.eq_iff_iff]
  simp only [List.all_eq_true, List.mem_range, id]
  constructor
  · intro h b hb
    obtain ⟨i, hi, e⟩ := List.getElem_of_mem hb
    have := h i hi
    rw [List.getD_eq_getElem?_getD, List.getElem?_eq_getElem hi] at this
    rw [← e]; exact this
  · intro h i hi
    rw [List.getD_eq_getElem?_getD, List.getElem?_eq_getElem hi]
    exact h _ (List.getElem_mem hi)
theorem truth_of {P : Program} {w : World} {A : Around} {bs : List Bool} {its : List Value} (rv : Vals (bs.map V.bl) its) : TruthOf P w A (fun i v => its.toArray[i]? = some v) (fun i => bs.getD i false) := by
  intro i v s Q' E' e hQ
  have hl := rv.length
  rw [List.length_map] at hl
  have e2 : its[i]? = some v := by simpa using e
  have hi : i < bs.length := by have := (List.getElem?_eq_some_iff.mp e2).1; omega
  obtain ⟨w', ew, rw'⟩ := rv.get (i := i) (x := .bl (bs.getD i false)) (by rw [List.getElem?_map, List.getElem?_eq_getElem hi, List.getD_eq_getElem?_getD, List.getElem?_eq_getElem hi]; rfl)
  rw [e2] at ew; cases ew
  cases rw'
  exact wpAny_truthy_bool hQ
theorem call_allB (hc : X.calm = true) : CallR X (.builtin "all") (fun xs H Q => ∃ (p : Addr) (bs : List Bool), xs = [.ref p] ∧ SqL X.K H p (bs.map V.bl) ∧ Q (.bl (bs.all id)) H) := by
  intro pins s σ H xs us Q I r h
  obtain ⟨p, bs, rfl, hq, q⟩ := h
  obtain ⟨u, rfl, ru⟩ := vals1 r
  cases ru
  obtain ⟨its, rv, pl, hz⟩ := I.list hq
  have hl := rv.length
  rw [List.length_map] at hl
  refine call_all_walkS (wpAny_pyIter_list pl.isList ?_)
  have hne : p ≠ s.heap.objs.size := Nat.ne_of_lt (isL_lt pl.isList)
  refine ⟨s.heap.objs.size, _, _, _, its.toArray.size, _, _, fun i => bs.getD i false, rfl, (Walks.list (prog := X.prog) (w := X.w) (A := X.A.in1) (I.ok.hd hc) s.heap.objs.size p hne its.toArray).toS, ⟨⟨_, Heap.get?_push_size _ rfl, rfl, rfl⟩, pl.isList.push _⟩, truth_of rv, fun s' hm => ?_⟩
  refine ⟨.bl (bs.all id), H, it_new I hm, ?_, q⟩
  show Value.bool _ = Value.bool _
  congr 1
  rw [List.size_toArray, ← hl]
  exact all_range bs
end
end L2

set_option genSizeOf false
set_option genInjectivity false
namespace L2
open PySem PySem.Spec PyProof.Rows PySem.SeqAt

inductive EqE (H : Hp) : V → V → Bool → Prop where
  | int (i j : Int) : EqE H (.int i) (.int j) (decide (i = j))
  | bl (i j : Bool) : EqE H (.bl i) (.bl j) (decide (i = j))
  | str (i j : Str) : EqE H (.str i) (.str j) (decide (i = j))
  | tup {a b : Addr} {ns ms : List Int} (ha : H a = some (.tup (ns.map V.int))) (hb : H b = some (.tup (ms.map V.int))) : EqE H (.ref a) (.ref b) (decide (ns = ms))
theorem all_eq_ints : ∀ (ns ms : List Int), ((List.range (min ns.length ms.length)).all (fun j => decide (ns.getD j 0 = ms.getD j 0)) && decide (ns.length = ms.length)) = decide (ns = ms) := by
  intro ns ms
  rw [Bool.eq_iff_iff, Bool.and_eq_true, decide_eq_true_eq, decide_eq_true_eq, List.all_eq_true]
  constructor
  · rintro ⟨h1, h2⟩
    refine List.ext_getElem h2 fun i hi hj => ?_
    have := h1 i (List.mem_range.mpr (by omega))
    rw [decide_eq_true_eq, List.getD_eq_getElem?_getD, List.getD_eq_getElem?_getD, List.getElem?_eq_getElem hi, List.getElem?_eq_getElem hj] at this
    exact this
  · rintro rfl
    exact ⟨fun j _ => by simp, rfl⟩
theorem ints_inj : ∀ {ns ms : List Int}, ns.map V.int = ms.map V.int → ns = ms
  | [], [], _ => rfl
  | [], _ :: _, h => by simp at h
  | _ :: _, [], h => by simp at h
  | n :: ns, m :: ms, h => by
    simp only [List.map_cons, List.cons.injEq, V.int.injEq] at h
    rw [h.1, ints_inj h.2]
section
variable {X : Cx}
theorem units_in1 {A : Around} : A.in1.units = A.units + 1 := rfl
theorem eqE_at {pins : List (Addr × Obj)} {σ : St} {H : Hp} {s : Shared} {A : Around} {x y : V} {u v : Value} {b : Bool} (I : Inv X pins σ H s) (rx : RelV x u) (ry : RelV y v) (hu : A.units < cLine) (e : EqE H x y b) : EqAt A s u v b := by
  cases e with
  | int i j =>
    obtain ⟨t, rfl⟩ := rx
    obtain ⟨t', rfl⟩ := ry
    have := EqAt.int_int (A := A) (s := s) i t j t'
    rw [Bool.beq_eq_decide_eq] at this
    exact this
  | bl i j =>
    cases rx; cases ry
    have := EqAt.bool_bool (A := A) (s := s) i j
    rw [Bool.beq_eq_decide_eq] at this
    exact this
  | str i j =>
    obtain ⟨t, rfl⟩ := rx
    obtain ⟨t', rfl⟩ := ry
    have := EqAt.str_str (A := A) (s := s) i t j t'
    rw [Bool.beq_eq_decide_eq] at this
    exact this
  | @tup a b ns ms ha hb =>
    cases rx; cases ry
    by_cases hab : a = b
    · subst hab
      rw [ha] at hb
      have e : ns.map V.int = ms.map V.int := by injection hb with h; injection h
      have e2 : ns = ms := ints_inj e
      subst e2
      rw [decide_eq_true rfl]
      exact EqAt.same _
    · obtain ⟨i1, r1, p1, z1⟩ := I.tuple (SqT.of (K := X.K) ha)
      obtain ⟨i2, r2, p2, z2⟩ := I.tuple (SqT.of (K := X.K) hb)
      have n1 := intsAre_of r1
      have n2 := intsAre_of r2
      have l1 := n1.length
      have l2 := n2.length
      refine EqAt.of_refs hab ?_
      have q := RcAt.tuples (A := A) (s := s) (l := a) (b := b) (items := i1.toArray) (items2 := i2.toArray) (e := fun j => decide (ns.getD j 0 = ms.getD j 0)) p1 p2 hu (fun j h1 h2 => by
        obtain ⟨t, q1⟩ := n1.int_at j _ (show i1[j]? = some i1.toArray[j] by simp at h1; simp [h1])
        obtain ⟨t', q2⟩ := n2.int_at j _ (show i2[j]? = some i2.toArray[j] by simp at h2; simp [h2])
        rw [q1, q2]
        have := EqAt.int_int (A := A.in1) (s := s) (ns.getD j 0) t (ms.getD j 0) t'
        rw [Bool.beq_eq_decide_eq] at this
        exact this)
      rw [List.size_toArray, List.size_toArray, l1, l2] at q
      have e : ((List.range (min ns.length ms.length)).all (fun j => decide (ns.getD j 0 = ms.getD j 0)) && ns.length == ms.length) = decide (ns = ms) := by
        rw [← all_eq_ints ns ms, Bool.beq_eq_decide_eq]
      rw [e] at q
      exact q
theorem eqL_core {pins : List (Addr × Obj)} {σ : St} {H : Hp} {s : Shared} {p q : Addr} {xs ys : List V} {e : Nat → Bool} {Q : Value → Shared → Prop} (I : Inv X pins σ H s) (hu : X.A.units + 64 < cLine) (hp : SqL X.K H p xs) (hq : SqL X.K H q ys)
    (he : ∀ (j : Nat) a b, xs[j]? = some a → ys[j]? = some b → EqE H a b (e j)) (h : Q (.bool (decide (xs.length = ys.length) && (List.range xs.length).all e)) s) : wpAny (model X.prog X.w) X.A (compareOp .Eq (.ref p) (.ref q)) Q X.xe s := by
  obtain ⟨i1, r1, p1, z1⟩ := I.list hp
  obtain ⟨i2, r2, p2, z2⟩ := I.list hq
  have l1 := r1.length
  have l2 := r2.length
  have hu0 : X.A.units < cLine := by omega
  by_cases c : xs.length = ys.length
  · rw [decide_eq_true c, Bool.true_and, l1] at h
    refine eq_listAt (e := e) p1.isList p2.isList (by simp; omega) hu0 (fun j h1 h2 => ?_) (by simpa using h)
    simp at h1 h2
    obtain ⟨a, ha⟩ : ∃ a, xs[j]? = some a := ⟨_, List.getElem?_eq_getElem (by omega)⟩
    obtain ⟨b, hb⟩ : ∃ b, ys[j]? = some b := ⟨_, List.getElem?_eq_getElem (by omega)⟩
    obtain ⟨u, eu, ru⟩ := r1.get ha
    obtain ⟨v, ev, rv⟩ := r2.get hb
    have e1 : i1.toArray[j]'(by simpa using h1) = u := by
      rw [List.getElem?_eq_getElem h1] at eu
      simpa using eu
    have e2 : i2.toArray[j]'(by simpa using h2) = v := by
      rw [List.getElem?_eq_getElem h2] at ev
      simpa using ev
    rw [e1, e2]
    exact eqE_at I ru rv (by rw [units_in1]; omega) (he j a b ha hb)
  · rw [decide_eq_false c, Bool.false_and] at h
    exact eq_list_lengthsAt p1.isList p2.isList (by simp; omega) hu0 h
theorem neL_core {pins : List (Addr × Obj)} {σ : St} {H : Hp} {s : Shared} {p q : Addr} {xs ys : List V} {e : Nat → Bool} {Q : Value → Shared → Prop} (I : Inv X pins σ H s) (hu : X.A.units + 64 < cLine) (hp : SqL X.K H p xs) (hq : SqL X.K H q ys)
    (he : ∀ (j : Nat) a b, xs[j]? = some a → ys[j]? = some b → EqE H a b (e j)) (h : Q (.bool (!(decide (xs.length = ys.length) && (List.range xs.length).all e))) s) : wpAny (model X.prog X.w) X.A (compareOp .NotEq (.ref p) (.ref q)) Q X.xe s := by
  obtain ⟨i1, r1, p1, z1⟩ := I.list hp
  obtain ⟨i2, r2, p2, z2⟩ := I.list hq
  have l1 := r1.length
  have l2 := r2.length
  have hu0 : X.A.units < cLine := by omega
  by_cases c : xs.length = ys.length
  · rw [decide_eq_true c, Bool.true_and, l1] at h
    refine RcNeAt.lists (e := e) p1.isList p2.isList (by simp; omega) hu0 (fun j h1 h2 => ?_) _ _ _ _ (by simpa using h)
    simp at h1 h2
    obtain ⟨a, ha⟩ : ∃ a, xs[j]? = some a := ⟨_, List.getElem?_eq_getElem (by omega)⟩
    obtain ⟨b, hb⟩ : ∃ b, ys[j]? = some b := ⟨_, List.getElem?_eq_getElem (by omega)⟩
    obtain ⟨u, eu, ru⟩ := r1.get ha
    obtain ⟨v, ev, rv⟩ := r2.get hb
    have e1 : i1.toArray[j]'(by simpa using h1) = u := by
      rw [List.getElem?_eq_getElem h1] at eu
      simpa using eu
    have e2 : i2.toArray[j]'(by simpa using h2) = v := by
      rw [List.getElem?_eq_getElem h2] at ev
      simpa using ev
    rw [e1, e2]
    exact eqE_at I ru rv (by rw [units_in1]; omega) (he j a b ha hb)
  · rw [decide_eq_false c, Bool.false_and] at h
    exact RcNeAt.lists_lengths p1.isList p2.isList (by simp; omega) hu0 _ _ _ _ h

noncomputable def TupP (H : Hp) (v : V) (p : Int × Int) : Prop := ∃ t, v = .ref t ∧ H t = some (.tup [.int p.1, .int p.2])
noncomputable def RowV (H : Hp) (xs : List V) (r : List (Int × Int)) : Prop := Paired (TupP H) xs r
noncomputable def RowAt (H : Hp) (a : Addr) (r : List (Int × Int)) : Prop := ∃ xs, H a = some (.lst xs) ∧ RowV H xs r
theorem RowV.same {H H' : Hp} (e : Same H H') {xs : List V} {r : List (Int × Int)} (h : RowV H xs r) : RowV H' xs r := Paired.mapP h fun v p ⟨t, e1, e2⟩ => ⟨t, e1, e _ _ e2⟩
theorem RowAt.same {H H' : Hp} (e : Same H H') {a : Addr} {r : List (Int × Int)} (h : RowAt H a r) : RowAt H' a r := let ⟨xs, h1, h2⟩ := h; ⟨xs, e _ _ h1, RowV.same e h2⟩
theorem RowV.length {H : Hp} {xs : List V} {r : List (Int × Int)} (h : RowV H xs r) : xs.length = r.length := Paired.length h
theorem paired_get {α β : Type} {F : α → β → Prop} : ∀ {xs : List α} {ys : List β}, Paired F xs ys → ∀ (i : Nat) {x : α}, xs[i]? = some x → ∃ y, ys[i]? = some y ∧ F x y
  | _, _, .nil, i, x, e => by simp at e
  | _, _, .cons r t, 0, x, e => by simp at e; subst e; exact ⟨_, rfl, r⟩
  | _, _, .cons _ t, i + 1, x, e => by simpa using paired_get t i (by simpa using e)
theorem paired_get' {α β : Type} {F : α → β → Prop} : ∀ {xs : List α} {ys : List β}, Paired F xs ys → ∀ (i : Nat) {y : β}, ys[i]? = some y → ∃ x, xs[i]? = some x ∧ F x y
  | _, _, .nil, i, x, e => by simp at e
  | _, _, .cons r t, 0, x, e => by simp at e; subst e; exact ⟨_, rfl, r⟩
  | _, _, .cons _ t, i + 1, x, e => by simpa using paired_get' t i (by simpa using e)
theorem RowV.get {H : Hp} {xs : List V} {r : List (Int × Int)} (h : RowV H xs r) {i : Nat} (hi : i < r.length) : ∃ t, xs[i]? = some (.ref t) ∧ H t = some (.tup [.int (r.getD i (0, 0)).1, .int (r.getD i (0, 0)).2]) := by
  obtain ⟨x, e, t, e1, e2⟩ := paired_get' h i (List.getElem?_eq_getElem hi)
  subst e1
  refine ⟨t, e, ?_⟩
  rw [List.getD_eq_getElem?_getD, List.getElem?_eq_getElem hi]
  exact e2
theorem row_eqE {H : Hp} {xs ys : List V} {r r' : List (Int × Int)} (h : RowV H xs r) (h' : RowV H ys r') : ∀ (j : Nat) a b, xs[j]? = some a → ys[j]? = some b → EqE H a b (decide (r.getD j (0, 0) = r'.getD j (0, 0))) := by
  intro j a b ha hb
  obtain ⟨p, e1, t, rfl, e2⟩ := paired_get h j ha
  obtain ⟨q, f1, u, rfl, f2⟩ := paired_get h' j hb
  rw [List.getD_eq_getElem?_getD, List.getD_eq_getElem?_getD, e1, f1]
  show EqE H _ _ (decide (p = q))
  have e : decide (p = q) = decide ([p.1, p.2] = [q.1, q.2]) := by
    rw [Bool.eq_iff_iff, decide_eq_true_eq, decide_eq_true_eq]
    constructor
    · rintro rfl; rfl
    · intro z; simp at z; exact Prod.ext z.1 z.2
  rw [e]
  exact EqE.tup (ns := [p.1, p.2]) (ms := [q.1, q.2]) e2 f2
theorem all_eq_list {α : Type} [DecidableEq α] (d : α) (l m : List α) : (decide (l.length = m.length) && (List.range l.length).all fun j => decide (l.getD j d = m.getD j d)) = decide (l = m) := by
  rw [Bool.eq_iff_iff, Bool.and_eq_true, decide_eq_true_eq, decide_eq_true_eq, List.all_eq_true]
  constructor
  · rintro ⟨h2, h1⟩
    refine List.ext_getElem h2 fun i hi hj => ?_
    have := h1 i (List.mem_range.mpr hi)
    rw [decide_eq_true_eq, List.getD_eq_getElem?_getD, List.getD_eq_getElem?_getD, List.getElem?_eq_getElem hi, List.getElem?_eq_getElem hj] at this
    exact this
  · rintro rfl
    exact ⟨rfl, fun j _ => by simp⟩
inductive TwoL (K : PySem.W.Frag) (H : Hp) (p q : Addr) : Bool → Prop where
  | iL {ns ms : List Int} (h : SqL K H p (ns.map V.int)) (h' : SqL K H q (ms.map V.int)) : TwoL K H p q (decide (ns = ms))
  | bL {ns ms : List Bool} (h : SqL K H p (ns.map V.bl)) (h' : SqL K H q (ms.map V.bl)) : TwoL K H p q (decide (ns = ms))
  | rL {xs ys : List V} {r r' : List (Int × Int)} (h : SqL K H p xs) (h1 : RowV H xs r) (h' : SqL K H q ys) (h1' : RowV H ys r') : TwoL K H p q (decide (r = r'))
theorem TwoL.core {H : Hp} {p q : Addr} {b : Bool} (t : TwoL X.K H p q b) : ∃ xs ys e, SqL X.K H p xs ∧ SqL X.K H q ys ∧ (∀ (j : Nat) a b, xs[j]? = some a → ys[j]? = some b → EqE H a b (e j)) ∧ b = (decide (xs.length = ys.length) && (List.range xs.length).all e) := by
  cases t with
  | @iL ns ms h h' =>
    refine ⟨_, _, fun j => decide (ns.getD j 0 = ms.getD j 0), h, h', fun j a b ha hb => ?_, ?_⟩
    · rw [List.getElem?_map] at ha hb
      cases e1 : ns[j]? with
      | none => rw [e1] at ha; cases ha
      | some n =>
        cases e2 : ms[j]? with
        | none => rw [e2] at hb; cases hb
        | some m =>
          rw [e1] at ha; rw [e2] at hb
          cases ha; cases hb
          show EqE H (V.int n) (V.int m) (decide (ns.getD j 0 = ms.getD j 0))
          rw [List.getD_eq_getElem?_getD, List.getD_eq_getElem?_getD, e1, e2]
          exact .int n m
    · rw [List.length_map, List.length_map, all_eq_list]
  | @bL ns ms h h' =>
    refine ⟨_, _, fun j => decide (ns.getD j false = ms.getD j false), h, h', fun j a b ha hb => ?_, ?_⟩
    · rw [List.getElem?_map] at ha hb
      cases e1 : ns[j]? with
      | none => rw [e1] at ha; cases ha
      | some n =>
        cases e2 : ms[j]? with
        | none => rw [e2] at hb; cases hb
        | some m =>
          rw [e1] at ha; rw [e2] at hb
          cases ha; cases hb
          show EqE H (V.bl n) (V.bl m) (decide (ns.getD j false = ms.getD j false))
          rw [List.getD_eq_getElem?_getD, List.getD_eq_getElem?_getD, e1, e2]
          exact .bl n m
    · rw [List.length_map, List.length_map, all_eq_list]
  | @rL xs ys r r' h h1 h' h1' =>
    exact ⟨_, _, _, h, h', row_eqE h1 h1', by rw [h1.length, h1'.length, all_eq_list]⟩
noncomputable def rEqL (K : PySem.W.Frag) : R2 := fun x y H Q => ∃ p q b, x = .ref p ∧ y = .ref q ∧ TwoL K H p q b ∧ Q (.bl b) H
noncomputable def rNeL (K : PySem.W.Frag) : R2 := fun x y H Q => ∃ p q b, x = .ref p ∧ y = .ref q ∧ TwoL K H p q b ∧ Q (.bl (!b)) H
theorem op_eqL (hu : X.A.units + 64 < cLine) : OpR X (compareOp .Eq) (rEqL X.K) := by
  intro pins s σ H x y v u Q I rx ry h
  obtain ⟨p, q, b, rfl, rfl, t, h⟩ := h
  cases rx; cases ry
  obtain ⟨xs, ys, e, hp, hq, he, rfl⟩ := t.core
  exact eqL_core I hu hp hq he ⟨.bl _, H, I, rfl, h⟩
theorem op_neL (hu : X.A.units + 64 < cLine) : OpR X (compareOp .NotEq) (rNeL X.K) := by
  intro pins s σ H x y v u Q I rx ry h
  obtain ⟨p, q, b, rfl, rfl, t, h⟩ := h
  cases rx; cases ry
  obtain ⟨xs, ys, e, hp, hq, he, rfl⟩ := t.core
  exact neL_core I hu hp hq he ⟨.bl _, H, I, rfl, h⟩

noncomputable def pickV {α : Type} (xs : List α) (lo hi st : Option Int) : List α := (sliceRange (sliceBounds lo hi st xs.length).1 (sliceBounds lo hi st xs.length).2.1 (sliceBounds lo hi st xs.length).2.2).filterMap (xs[·]?)
theorem Vals.pick {xs : List V} {us : List Value} (r : Vals xs us) : ∀ ks : List Nat, Vals (ks.filterMap (xs[·]?)) (ks.filterMap (us[·]?))
  | [] => .nil
  | k :: ks => by
    cases e : xs[k]? with
    | none =>
      rw [List.filterMap_cons_none e, List.filterMap_cons_none (r.none_of e)]
      exact Vals.pick r ks
    | some x =>
      obtain ⟨u, eu, ru⟩ := r.get e
      rw [List.filterMap_cons_some e, List.filterMap_cons_some eu]
      exact .cons ru (Vals.pick r ks)
theorem pick_arr (its : List Value) (lo hi st : Option Int) : slicePick its.toArray lo hi st = (pickV its lo hi st).toArray := by
  unfold slicePick pickV
  simp
noncomputable def tSlS (K : PySem.W.Frag) (te : TE) (tl th : TO) (ts : TE) : TE := fun σ H Q => te σ H fun x H1 => tl σ H1 fun l H2 => th σ H2 fun u H3 => ts σ H3 fun z H4 => ∃ a xs k, x = .ref a ∧ z = .int k ∧ k ≠ 0 ∧ SqL K H4 a xs ∧ (pickV xs l u (some k)).length ≤ sizeLine ∧
  ∀ p, H4 p = none → Q (.ref p) (upd H4 p (.lst (pickV xs l u (some k))))
theorem pe_sliceS {e st : Expr} {te ts : TE} {lo hi : Option Expr} {tl th : TO} {pos p2 : Pos} (he : PE X e te) (hl : PO X lo tl) (hu : PO X hi th) (hs : PE X st ts) : PE X (.Subscript e (.Slice lo hi (some st) p2) pos) (tSlS X.K te tl th ts) := by
  intro pins s σ H Q I h
  refine Subscript_ (thn (he pins s σ H _ I h) fun v s1 ⟨x, H1, I1, r1, q1⟩ => ?_)
  refine wpAny_Slice (thn (hl pins s1 σ H1 _ I1 q1) fun vl s2 ⟨l, H2, I2, pl, q2⟩ => thn (hu pins s2 σ H2 _ I2 q2) fun vu s3 ⟨u, H3, I3, pu, q3⟩ => ?_)
  rw [evalPart_some]
  refine thn (hs pins s3 σ H3 _ I3 q3) fun vk s4 ⟨z, H4, I4, r4, q4⟩ => ?_
  obtain ⟨a, xs, k, rfl, rfl, hk, hq, hz, q⟩ := q4
  cases r1
  obtain ⟨tk, rfl⟩ := r4
  have I5 : Inv X pins σ H4 { s4 with heap := s4.heap.push { cls := .type "slice", data := .fields #[vl, vu, .int k tk] } } := I4.kept (t' := s4.toks) fun b ob q => Heap.get?_push_of_some _ q
  obtain ⟨its, r, ht, hz'⟩ := I5.list hq
  have hlen := r.length
  show wpAny (model X.prog X.w) X.A (subscriptTail e (.Slice lo hi (some st) p2) (.ref a) (.ref s4.heap.objs.size)) (EP X pins σ Q) X.xe { s4 with heap := s4.heap.push { cls := .type "slice", data := .fields #[vl, vu, .int k tk] } }
  refine tail_any (ops := [.ref a, .ref s4.heap.objs.size]) ht.isList.typeIs slot_list_getitem.lookup (wpAny_getItem_list_slice ht.isList (Heap.IsSliceOf.new ..) pl pu (.int k tk) (by simpa using hk) ?_ (by rw [List.size_toArray]; omega)) (by with_unfolding_all rfl)
  rw [pick_arr]
  have rp : Vals (pickV xs l u (some k)) (pickV its l u (some k)) := by
    unfold pickV
    rw [hlen]
    exact r.pick _
  exact ⟨.ref (s4.heap.push { cls := .type "slice", data := .fields #[vl, vu, .int k tk] }).objs.size, _, I5.lnew (t' := s4.toks) rp hz, rfl, q _ (I5.hok.fresh (Nat.le_refl _))⟩
end
end L2

set_option genSizeOf false
set_option genInjectivity false
namespace L2
open PySem PySem.Spec PyProof.Rows
section
variable {X : Cx}
noncomputable def Dfn (P : Program) (w : World) (K : PySem.W.Frag) (mg : Str → Option Value) (base : Heap) (x : Str) (k : Nat) (ps : List Str) (sp : Sp) : Prop :=
  ∃ (f : Addr) (fd : FuncData), mg x = some (.ref f) ∧ PySem.W.keepIn K (.ref f) = true ∧ Binds K fd ps [] ∧ FnOk P w K mg base CX0 k f fd ps sp
theorem pe_callD {k : Nat} {x : Str} {ps : List Str} {sp : Sp} {p pos : Pos} {e : Expr} {es : List Expr} {t : TA} (D : Dfn X.prog X.w X.K X.mg X.base x k ps sp) (hr : Room k X.A) (hg : Gl X x) (ha : PA X (e :: es) t)
    (hdb : (x == ("__debug__" : Str)) = false := by decide +kernel) (he : starEach (e :: es) X.env = (false, eval e X.env) :: starEach es X.env := by rfl) (hpl : (backTo pos (starEach es X.env)).any (·.1) = false := by rfl) :
    PE X (.Call (.Name x p) (e :: es) [] pos) (tCall sp [] E0 t) := by
  obtain ⟨f, fd, hm, hk, hb, F⟩ := D
  exact pe_call F hr hg hm hk hb .nil pass0 ha hdb he hpl

theorem pg_tupK {es : List Expr} {k n : Nat} {t : TGs} {pos : Pos} (K : PySem.W.Frag) (hK : X.K = K) (hc : X.calm = true) (h : PGs X es t)
    (hn : (assignEach es X.env).length = n := by rfl) (hst : (assignEach es X.env).findIdx? (·.1) = none := by rfl) : PG X (.Tuple es k pos) (gTup K n t) := by
  subst hK
  exact pg_tup hc h hn hst
theorem ix_listK (K : PySem.W.Frag) (hK : X.K = K) : IxR X (rIxL K) := by subst hK; exact ix_list
theorem ix_tupK (K : PySem.W.Frag) (hK : X.K = K) : IxR X (rIxT K) := by subst hK; exact ix_tup
theorem sl_listK (K : PySem.W.Frag) (hK : X.K = K) : SlR X (rSlL K) := by subst hK; exact sl_list
theorem call_len_seqK (K : PySem.W.Frag) (hK : X.K = K) : CallR X (.builtin "len") (fun xs H Q => ∃ p ys, xs = [.ref p] ∧ (SqL K H p ys ∨ SqT K H p ys) ∧ Q (.int ys.length) H) := by subst hK; exact call_len_seq
theorem call_list_ofK (K : PySem.W.Frag) (hK : X.K = K) : CallR X (.type "list") (fun xs H Q => ∃ p ys, xs = [.ref p] ∧ (SqL K H p ys ∨ SqT K H p ys) ∧ ∀ l, H l = none → Q (.ref l) (upd H l (.lst ys))) := by subst hK; exact call_list_of
theorem call_isiK (K : PySem.W.Frag) (hK : X.K = K) : CallR X (.builtin "isinstance") (fun xs H Q => ∃ x T t b, xs = [x, .ty T] ∧ TyOf K H x t ∧ PySem.W.kitOne K t (.type T) = some b ∧ Q (.bl b) H) := by subst hK; exact call_isi
noncomputable def compB (outer inner : Scope) (N : List Str) (cap : List (Nat × Str)) (own : List Str) : Bool :=
  (inner.kind == .function) && inner.names.all (fun y => y.2 != .cell) && inner.names.all (fun y => y.2 != .local || inner.names.lookup y.1 == some .local)
    && inner.names.all (fun y => y.2 != .free || (outer.names.lookup y.1 == some .cell && inner.names.lookup y.1 == some .free))
    && cap.all (fun p => N[p.1]? == some p.2) && own.all (fun x => inner.names.lookup x != some .free) && cap.all (fun p => inner.names.lookup p.2 == some .free)
theorem CompOk.of {outer inner : Scope} {N : List Str} {cap : List (Nat × Str)} {own : List Str} (he : X.env.scope = outer) (hN : X.N = N) (h : compB outer inner N cap own = true) : CompOk X inner cap own := by
  unfold compB at h
  simp only [Bool.and_eq_true] at h
  obtain ⟨⟨⟨⟨⟨⟨h1, h2⟩, h3⟩, h4⟩, h5⟩, h6⟩, h7⟩ := h
  refine ⟨by simpa using h1, fun y hy z => ?_, fun y hy z => ?_, fun y hy z => ?_, fun p hp => ?_, fun x hx z => ?_, fun p hp => ?_⟩
  · have := List.all_eq_true.mp h2 y hy
    rw [z] at this
    exact absurd this (by decide)
  · have := List.all_eq_true.mp h3 y hy
    rw [z] at this
    simpa using this
  · have := List.all_eq_true.mp h4 y hy
    rw [z] at this
    rw [he]
    simpa using this
  · have := List.all_eq_true.mp h5 p hp
    rw [hN]
    simpa using this
  · have := List.all_eq_true.mp h6 x hx
    rw [z] at this
    simp at this
  · have := List.all_eq_true.mp h7 p hp
    simpa using this
end
structure Blt (mg : Str → Option Value) : Prop where
  b_len : mg "len" = none
  b_isinstance : mg "isinstance" = none
  b_int : mg "int" = none
  b_bool : mg "bool" = none
  b_list : mg "list" = none
  b_tuple : mg "tuple" = none
  b_range : mg "range" = none
  b_reversed : mg "reversed" = none
  b_max : mg "max" = none
  b_abs : mg "abs" = none
  b_sum : mg "sum" = none
  b_all : mg "all" = none
  b_sorted : mg "sorted" = none
  b_set : mg "set" = none
  b_any : mg "any" = none
  b_min : mg "min" = none
  b_zip : mg "zip" = none
  b_enumerate : mg "enumerate" = none
  b_str : mg "str" = none
theorem Same.upd {H : Hp} {a : Addr} {o : HO} (h : H a = none) : Same H (upd H a o) := fun b u e => by rw [upd_ne (ne_of_none e h)]; exact e
theorem Same.upd' {H H' : Hp} {a : Addr} {o : HO} (s : Same H H') (h : H a = none) : Same H (L2.upd H' a o) := fun b u e => by rw [upd_ne (ne_of_none e h)]; exact s b u e
theorem Same.none {H H' : Hp} (s : Same H H') {a : Addr} (h : H' a = Option.none) : H a = Option.none := s.free h
end L2

set_option genSizeOf false
set_option genInjectivity false
namespace L2
open PySem
end L2

namespace L2
open PySem PyProof.Rows
section
variable {X : Cx}
theorem star_bin {l r : Expr} {o : Operator} {p : Pos} {es : List Expr} {env : Env} : starEach (.BinOp l o r p :: es) env = (false, eval (.BinOp l o r p) env) :: starEach es env := rfl
theorem star_tup {l : List Expr} {k : Nat} {p : Pos} {es : List Expr} {env : Env} : starEach (.Tuple l k p :: es) env = (false, eval (.Tuple l k p) env) :: starEach es env := rfl
theorem star_con {v : Const} {k : Nat} {p : Pos} {es : List Expr} {env : Env} : starEach (.Constant v k p :: es) env = (false, eval (.Constant v k p) env) :: starEach es env := rfl
theorem pe_pairC {i j : Int} {k1 k2 k : Nat} {p1 p2 p : Pos} : PE X (.Tuple [.Constant (.int i) k1 p1, .Constant (.int j) k2 p2] k p) (tTup (tCons (tC (.int i)) (tCons (tC (.int j)) tNil))) := pe_tup (pa_cons pe_int (pa_cons pe_int pa_nil star_con) star_con)
theorem pe_pairP {i j i' j' : Int} {k1 k2 k3 k4 k : Nat} {p1 p2 p3 p4 p5 p6 p : Pos} : PE X (.Tuple [.BinOp (.Constant (.int i) k1 p1) .Pow (.Constant (.int j) k2 p2) p3, .BinOp (.Constant (.int i') k3 p4) .Pow (.Constant (.int j') k4 p5) p6] k p)
    (tTup (tCons (tOp (rI CPow fun i j => .int (i ^ j.toNat)) (tC (.int i)) (tC (.int j))) (tCons (tOp (rI CPow fun i j => .int (i ^ j.toNat)) (tC (.int i')) (tC (.int j'))) tNil))) := pe_tup (pa_cons (pe_op op_pow pe_int pe_int) (pa_cons (pe_op op_pow pe_int pe_int) pa_nil star_bin) star_bin)
theorem pe_tup4 {a b c d : List Expr} {k1 k2 k3 k4 k : Nat} {p1 p2 p3 p4 p : Pos} {ta tb tc td : TE} (ha : PE X (.Tuple a k1 p1) ta) (hb : PE X (.Tuple b k2 p2) tb) (hc : PE X (.Tuple c k3 p3) tc) (hd : PE X (.Tuple d k4 p4) td) :
    PE X (.Tuple [.Tuple a k1 p1, .Tuple b k2 p2, .Tuple c k3 p3, .Tuple d k4 p4] k p) (tTup (tCons ta (tCons tb (tCons tc (tCons td tNil))))) := pe_tup (pa_cons ha (pa_cons hb (pa_cons hc (pa_cons hd pa_nil star_tup) star_tup) star_tup) star_tup)
end
end L2

set_option genSizeOf false
set_option genInjectivity false
namespace L2
open PySem PySem.Spec PyProof.Rows
section
variable {X : Cx}
theorem ps_cut {st : Stmt} {t : TS} (h : PS X st t) : PS X st (fun D σ H => ∃ R : St → Hp → Prop, t { D with nx := R } σ H ∧ ∀ σ' H', R σ' H' → D.nx σ' H') := by
  intro pins s σ H D I hq
  obtain ⟨R, h1, h2⟩ := hq
  refine thn (h pins s σ H _ I h1) fun f s' q => ?_
  cases f with
  | next =>
    obtain ⟨σ', H', I', r⟩ := q
    exact ⟨σ', H', I', h2 σ' H' r⟩
  | brk => exact q
  | cont => exact q
  | ret v => exact q
theorem pe_cut {e : Expr} {t : TE} (h : PE X e t) : PE X e (fun σ H Q => ∃ R : V → Hp → Prop, t σ H R ∧ ∀ v H', R v H' → Q v H') := by
  intro pins s σ H Q I hq
  obtain ⟨R, h1, h2⟩ := hq
  refine thn (h pins s σ H _ I h1) fun u s' q => ?_
  obtain ⟨v, H', I', r, z⟩ := q
  exact ⟨v, H', I', r, h2 v H' z⟩
end
section
variable {X : Cx}
end
end L2

set_option genSizeOf false
set_option genInjectivity false
namespace L2
open PySem PySem.Spec PyProof.Rows
section
variable {X : Cx} {pins : List (Addr × Obj)} {σ : St} {H : Hp} {s : Shared} {h' : Heap}
end
section
variable {X : Cx}
end
end L2

set_option genSizeOf false
set_option genInjectivity false
namespace L2
open PySem PySem.Spec PyProof.Rows
section
variable {X : Cx}
end
end L2

set_option genSizeOf false
set_option genInjectivity false
namespace L2
open PySem
theorem fil_bl (c b : Nat → Bool) (n : Nat) : ((List.range n).filter c).map (fun i => V.bl (b i)) = (((List.range n).filter c).map b).map V.bl := by
  rw [List.map_map]; rfl
theorem fil_all (n : Nat) : (List.range n).filter (fun _ => true) = List.range n := by simp
theorem map_range_getD {α : Type} (l : List α) (d : α) : (List.range l.length).map (fun i => l.getD i d) = l := by
  apply List.ext_getElem
  · simp
  · intro i h1 h2
    simp at h1
    simp [h1]
end L2

set_option genSizeOf false
set_option genInjectivity false
namespace Fm
noncomputable abbrev Row := List (Int × Int)
noncomputable def pl (r : Row) (i : Nat) : Int := (r.getD i (0, 0)).1
noncomputable def ht (r : Row) (i : Nat) : Int := (r.getD i (0, 0)).2
structure Good (r : Row) : Prop where
  rise : ∀ i j : Nat, i < j → j < r.length → pl r i < pl r j
  high : ∀ i : Nat, i < r.length → 1 ≤ ht r i

noncomputable def Kn (r : Row) (sd : Int) (i j : Nat) : Prop :=
  if sd = 1 then i < j ∧ j < r.length ∧ pl r j - pl r i ≤ ht r i else j < i ∧ i < r.length ∧ pl r i - pl r j ≤ ht r i
inductive Fall (r : Row) (sd : Int) (s : Nat) : Nat → Prop where
  | refl : Fall r sd s s
  | step {i j : Nat} : Fall r sd s i → Kn r sd i j → Fall r sd s j

noncomputable def run : Int → Row → Nat
  | _, [] => 0
  | c, (p, h) :: t => if p ≤ c then run (max c (p + h)) t + 1 else 0
noncomputable def fs (r : Row) (s : Nat) : Nat := s + 1 + run (pl r s + ht r s) (r.drop (s + 1))
noncomputable def Sd (sd : Int) : Prop := sd = 1 ∨ sd = -1
theorem kn_lt {r : Row} {sd : Int} {i j : Nat} (k : Kn r sd i j) : i < r.length ∧ j < r.length := by
  unfold Kn at k
  split at k <;> omega
theorem fall_lt {r : Row} {sd : Int} {s j : Nat} (hs : s < r.length) (h : Fall r sd s j) : j < r.length := by
  cases h with
  | refl => exact hs
  | step _ k => exact (kn_lt k).2
theorem Sd.neg {sd : Int} (h : Sd sd) : Sd (-sd) := by
  rcases h with e | e <;> subst e
  · exact .inr rfl
  · exact .inl rfl
structure Bfs (r : Row) (sd : Int) (s : Nat) (ws : List Nat) (d : Nat) : Prop where
  nd : ws.Nodup
  st : s ∈ ws
  fl : ∀ i ∈ ws, Fall r sd s i
  le : d ≤ ws.length
  cl : ∀ k i, k < d → ws[k]? = some i → ∀ j, Kn r sd i j → j ∈ ws
theorem Bfs.start (r : Row) (sd : Int) (s : Nat) : Bfs r sd s [s] 0 :=
  ⟨by simp, by simp, fun i hi => by rw [List.mem_singleton.mp hi]; exact .refl, by simp, fun k _ h => by omega⟩
structure BfsIn (r : Row) (sd : Int) (s : Nat) (ws : List Nat) (d : Nat) (one : Nat) (t : Nat) : Prop extends Bfs r sd s ws d where
  one_at : ws[d]? = some one
  met : ∀ j : Nat, Kn r sd one j → ((j : Int) - one) * sd ≤ t → j ∈ ws
theorem nodup_le : ∀ {n : Nat} {ws : List Nat}, ws.Nodup → (∀ i ∈ ws, i < n) → ws.length ≤ n
  | 0, ws, _, hl => by
    cases ws with
    | nil => exact Nat.le_refl _
    | cons a r => exact absurd (hl a (List.mem_cons_self ..)) (Nat.not_lt_zero _)
  | n + 1, ws, h, hl => by
    have h1 := nodup_le (n := n) (h.erase n) fun i hi => by
      have := (List.Nodup.mem_erase_iff h).mp hi
      have := hl i this.2
      omega
    rw [List.length_erase] at h1
    split at h1 <;> omega
theorem Bfs.lt {r : Row} {sd : Int} {s : Nat} {ws : List Nat} {d : Nat} (b : Bfs r sd s ws d) (hs : s < r.length) : ∀ i ∈ ws, i < r.length := fun i hi => fall_lt hs (b.fl i hi)
theorem Bfs.len {r : Row} {sd : Int} {s : Nat} {ws : List Nat} {d : Nat} (b : Bfs r sd s ws d) (hs : s < r.length) : ws.length ≤ r.length := nodup_le b.nd (b.lt hs)
theorem kn_far {r : Row} {sd : Int} (hd : Sd sd) {i j : Nat} (k : Kn r sd i j) : 1 ≤ ((j : Int) - i) * sd := by
  unfold Kn at k
  rcases hd with e | e
  · subst e; rw [if_pos rfl] at k; omega
  · subst e; rw [if_neg (by decide)] at k; omega
theorem Bfs.take {r : Row} {sd : Int} (hd : Sd sd) {s : Nat} {ws : List Nat} {d one : Nat} (b : Bfs r sd s ws d) (h : ws[d]? = some one) : BfsIn r sd s ws d one 0 :=
  { b with one_at := h, met := fun j k h => by have := kn_far hd k; omega }
theorem kn_at {r : Row} {sd : Int} (hd : Sd sd) {one at' t : Nat} (ho : one < r.length) (ha : at' < r.length) (e : (at' : Int) = one + sd * (t + 1)) (h : (pl r at' - pl r one).natAbs ≤ ht r one) : Kn r sd one at' := by
  unfold Kn
  rcases hd with x | x
  · subst x; rw [if_pos rfl]; omega
  · subst x; rw [if_neg (by decide)]; omega
theorem far_inj {sd : Int} (hd : Sd sd) {one at' j t : Nat} (e : (at' : Int) = one + sd * (t + 1)) (h : ((j : Int) - one) * sd = t + 1) : j = at' := by
  rcases hd with x | x <;> subst x <;> omega
theorem BfsIn.old {r : Row} {sd : Int} (hd : Sd sd) {s : Nat} {ws : List Nat} {d one t at' : Nat} (b : BfsIn r sd s ws d one t) (e : (at' : Int) = one + sd * (t + 1)) (h : at' ∈ ws) : BfsIn r sd s ws d one (t + 1) := by
  refine { b with met := ?_ }
  intro j k hj
  by_cases hc : ((j : Int) - one) * sd ≤ t
  · exact b.met j k hc
  · rw [far_inj hd e (j := j) (by omega)]; exact h
theorem BfsIn.new {r : Row} {sd : Int} (hd : Sd sd) {s : Nat} {ws : List Nat} {d one t at' : Nat} (hs : s < r.length) (b : BfsIn r sd s ws d one t) (ha : at' < r.length) (e : (at' : Int) = one + sd * (t + 1))
    (hk : (pl r at' - pl r one).natAbs ≤ ht r one) (h : ¬ at' ∈ ws) : BfsIn r sd s (ws ++ [at']) d one (t + 1) := by
  have mo : one ∈ ws := List.mem_of_getElem? b.one_at
  have ho : one < r.length := b.lt hs one mo
  have kk := kn_at hd ho ha e hk
  refine { nd := ?_, st := List.mem_append_left _ b.st, fl := ?_, le := ?_, cl := ?_, one_at := ?_, met := ?_ }
  · refine List.nodup_append.mpr ⟨b.nd, by simp, fun x hx y hy z => h ?_⟩
    rw [List.mem_singleton.mp hy] at z
    rw [← z]; exact hx
  · intro i hi
    rcases List.mem_append.mp hi with hi | hi
    · exact b.fl i hi
    · rw [List.mem_singleton.mp hi]; exact .step (b.fl one mo) kk
  · have := b.le; simp; omega
  · intro k i hk' hi j hj
    have h1 : k < ws.length := by have := b.le; omega
    rw [List.getElem?_append_left h1] at hi
    exact List.mem_append_left _ (b.cl k i hk' hi j hj)
  · have h1 : d < ws.length := (List.getElem?_eq_some_iff.mp b.one_at).1
    rw [List.getElem?_append_left h1]; exact b.one_at
  · intro j k hj
    by_cases hc : ((j : Int) - one) * sd ≤ t
    · exact List.mem_append_left _ (b.met j k hc)
    · rw [far_inj hd e (j := j) (by omega)]; simp
theorem Bfs.done {r : Row} {sd : Int} {s : Nat} {ws : List Nat} {d : Nat} (b : Bfs r sd s ws d) (h : ws.length ≤ d) (j : Nat) : j ∈ ws ↔ Fall r sd s j := by
  constructor
  · exact b.fl j
  · intro f
    induction f with
    | refl => exact b.st
    | @step i j _ k ih =>
      obtain ⟨n, hn⟩ := List.getElem?_of_mem ih
      exact b.cl n i (by have := (List.getElem?_eq_some_iff.mp hn).1; omega) hn j k
end Fm

set_option genSizeOf false
set_option genInjectivity false
namespace Fk
open PySem L2 Fm PyProof.Rows
noncomputable def top (i : Nat) : Stmt := PySem.Challenge.pw_fallrow_k07_texts.main.body.getD i (.Pass ⟨0, 0, 0, 0⟩)
noncomputable abbrev sNum : Stmt := top 7
noncomputable abbrev sPair : Stmt := top 8
noncomputable abbrev sStone : Stmt := top 9
noncomputable abbrev sChkRow : Stmt := top 10
noncomputable abbrev s_is_short : Stmt := top 14
noncomputable abbrev s_written : Stmt := top 15
noncomputable abbrev s_is_written_number : Stmt := top 16
noncomputable abbrev s_read_number : Stmt := top 17
noncomputable abbrev s_read_stone : Stmt := top 18
noncomputable abbrev s_read : Stmt := top 19
noncomputable abbrev sRow : Stmt := top 21
noncomputable abbrev s_law_number : Stmt := top 22
noncomputable abbrev s_law_in : Stmt := top 23
noncomputable abbrev s_law_refused : Stmt := top 24
noncomputable abbrev sRight : Stmt := top 25
noncomputable abbrev s_law_few : Stmt := top 26
noncomputable abbrev sLaw : Stmt := top 27
end Fk

set_option genSizeOf false
set_option genInjectivity false
namespace Fk
open PySem L2 Fm PyProof.Rows
theorem ty_kit {K : PySem.W.Frag} {H : Hp} {x : V} {T : String} (ty : TyOf K H x (.type T)) : kitB0 T "int" = some (decide (T = "int" ∨ T = "bool")) ∧ kitB0 T "bool" = some (decide (T = "bool")) ∧ kitB0 T "list" = some (decide (T = "list")) ∧ kitB0 T "tuple" = some (decide (T = "tuple")) := by
  cases ty <;> decide +kernel
theorem ty_tup {K : PySem.W.Frag} {H : Hp} {x : V} {t : Value} (ty : TyOf K H x t) (e : t = .type "tuple") : ∃ a xs, x = .ref a ∧ H a = some (.tup xs) := by
  cases ty with
  | tup e' => exact ⟨_, _, rfl, e'⟩
  | ins => cases e
  | _ => injection e with z; exact absurd z (by decide)
section
variable {P : Program} {w : World} {K : PySem.W.Frag} {mg : Str → Option Value} {base : Heap}
noncomputable def spNum (K : PySem.W.Frag) : Sp := fun vs H Q _ => ∃ x T, vs = [x] ∧ TyOf K H x (.type T) ∧ Q (.bl (decide (T = "int"))) H
theorem scNum : FnScope ["value"] ["value"] (defScope sNum) := ⟨rfl, rfl, rfl, by decide +kernel, rfl, by decide +kernel, by decide +kernel⟩
theorem ok_num {f : Addr} {fd : FuncData} (F : Fun K "is_number" "is_number" sNum f fd) (B : Blt mg) : FnOk P w K mg base CX0 1 f fd ["value"] (spNum K) := by
  refine F.ok scNum (fun vs H Q E h => ?_) (fun cdv A outer s H vs Q E hr h => ?_)
  · obtain ⟨x, T, rfl, _⟩ := h
    rfl
  · obtain ⟨x, T, rfl, ty, q⟩ := h
    obtain ⟨k1, k2, _⟩ := ty_kit ty
    refine ⟨_, (pss_one (ps_ret (pe_and (pe_callB call_isi (by rfl) B.b_isinstance boot_isinstance (pa_cons (pv 0) (pa_cons (pe_bltn (v := .ty "int") rfl B.b_int boot_int rfl) pa_nil))) (pe_one (pe_not (pe_callB call_isi (by rfl) B.b_isinstance boot_isinstance (pa_cons (pv 0) (pa_cons (pe_bltn (v := .ty "bool") rfl B.b_bool boot_bool rfl) pa_nil)))))))), ?_⟩
    refine ⟨_, rfl, _, _, _, _, rfl, ty, kitB k1, _, rfl, ?_⟩
    by_cases c : T = "int" ∨ T = "bool"
    · rw [decide_eq_true c]
      refine iteT ⟨_, rfl, _, _, _, _, rfl, ty, kitB k2, _, rfl, ?_⟩
      have e : (!decide (T = "bool")) = decide (T = "int") := by rcases c with rfl | rfl <;> rfl
      show Q (.bl (!decide (T = "bool"))) H
      rw [e]
      exact q
    · rw [decide_eq_false c]
      refine iteF ?_
      rw [decide_eq_false fun e => c (.inl e)] at q
      exact q
noncomputable def spPair (K : PySem.W.Frag) : Sp := fun vs H Q _ => ∃ x T, vs = [x] ∧ TyOf K H x (.type T) ∧ (∀ a xs, x = .ref a → H a = some (.tup xs) → Q (.bl (decide (xs.length = 2))) H) ∧ (T ≠ "tuple" → Q (.bl false) H)
theorem scPair : FnScope ["value"] ["value"] (defScope sPair) := ⟨rfl, rfl, rfl, by decide +kernel, rfl, by decide +kernel, by decide +kernel⟩
theorem dec_len (n : Nat) : decide (V.int (n : Int) = V.int 2) = decide (n = 2) := by
  rw [dec_int, Bool.eq_iff_iff, beq_iff_eq, decide_eq_true_eq]
  omega
theorem ok_pair {f : Addr} {fd : FuncData} (F : Fun K "is_pair" "is_pair" sPair f fd) (B : Blt mg) : FnOk P w K mg base CX0 1 f fd ["value"] (spPair K) := by
  refine F.ok scPair (fun vs H Q E h => ?_) (fun cdv A outer s H vs Q E hr h => ?_)
  · obtain ⟨x, T, rfl, _⟩ := h
    rfl
  · obtain ⟨x, T, rfl, ty, q1, q2⟩ := h
    obtain ⟨_, _, _, k4⟩ := ty_kit ty
    refine ⟨_, (pss_one (ps_ret (pe_and (pe_callB call_isi (by rfl) B.b_isinstance boot_isinstance (pa_cons (pv 0) (pa_cons (pe_bltn (v := .ty "tuple") rfl B.b_tuple boot_tuple rfl) pa_nil))) (pe_one (pe_cmpR op_eq (pe_callB call_len_seq (by rfl) B.b_len boot_len (pa_cons (pv 0) pa_nil)) pe_int (nomark _)))))), ?_⟩
    refine ⟨_, rfl, _, _, _, _, rfl, ty, kitB k4, _, rfl, ?_⟩
    by_cases c : T = "tuple"
    · rw [decide_eq_true c]
      subst c
      obtain ⟨a, xs, rfl, e⟩ := ty_tup ty rfl
      refine iteT ⟨_, rfl, a, xs, rfl, .inr (SqT.of e), rfl, ?_⟩
      rw [dec_len]
      exact q1 a xs rfl e
    · rw [decide_eq_false c]
      exact iteF (q2 c)
noncomputable def spStone : Sp := fun vs H Q _ => ∃ t p h, vs = [.ref t] ∧ H t = some (.tup [.int p, .int h]) ∧ Q (.bl (decide (1 ≤ h))) H
theorem scStone : FnScope ["value"] ["value"] (defScope sStone) := ⟨rfl, rfl, rfl, by decide +kernel, rfl, by decide +kernel, by decide +kernel⟩
theorem ok_stone {f : Addr} {fd : FuncData} (F : Fun K "is_stone" "is_stone" sStone f fd) (B : Blt mg) (d_is_pair : Dfn P w K mg base "is_pair" 1 ["value"] (spPair K)) (d_is_number : Dfn P w K mg base "is_number" 1 ["value"] (spNum K)) : FnOk P w K mg base CX0 2 f fd ["value"] spStone := by
  refine F.ok scStone (fun vs H Q E h => ?_) (fun cdv A outer s H vs Q E hr h => ?_)
  · obtain ⟨t, p, h, rfl, _⟩ := h
    rfl
  · obtain ⟨t, p, h, rfl, ht, q⟩ := h
    refine ⟨_, (pss_one (ps_ret (pe_and (pe_callD d_is_pair (hr.mono (by decide)) (by rfl) (pa_cons (pv 0) pa_nil)) (pe_and (pe_callD d_is_number (hr.mono (by decide)) (by rfl) (pa_cons (pe_ix ix_tup (pv 0) pe_int (fun _ _ => rfl)) pa_nil)) (pe_and (pe_callD d_is_number (hr.mono (by decide)) (by rfl) (pa_cons (pe_ix ix_tup (pv 0) pe_int (fun _ _ => rfl)) pa_nil)) (pe_one (pe_cmpR op_ge (pe_ix ix_tup (pv 0) pe_int (fun _ _ => rfl)) pe_int (nomark _)))))))), ?_⟩
    refine ⟨_, rfl, _, _, rfl, TyOf.tup ht, fun a xs e e2 => ?_, fun z => absurd rfl z⟩
    cases e
    rw [ht] at e2
    cases e2
    refine ⟨_, rfl, iteT ⟨_, rfl, t, _, 0, _, rfl, rfl, SqT.of ht, rfl, _, _, rfl, TyOf.int p, _, rfl, iteT ⟨_, rfl, t, _, 1, _, rfl, rfl, SqT.of ht, rfl, _, _, rfl, TyOf.int h, _, rfl, iteT ⟨_, rfl, t, _, 1, _, rfl, rfl, SqT.of ht, rfl, _, _, rfl, rfl, q⟩⟩⟩⟩
end
end Fk

set_option genSizeOf false
set_option genInjectivity false
namespace FxS
open PySem PySem.Spec PyProof.Rows PySem.W
section
variable {key : Nat → Int}
noncomputable def kv (key : Nat → Int) (p : Array Nat) (a : Nat) : Int := key (p.getD a 0)
noncomputable def Up (key : Nat → Int) (p : Array Nat) (m : Nat) : Prop := ∀ a b, a ≤ b → b < m → kv key p a ≤ kv key p b
noncomputable def Dn (key : Nat → Int) (p : Array Nat) (m : Nat) : Prop := ∀ a b, a ≤ b → b < m → kv key p b ≤ kv key p a
noncomputable def Ok (N : Nat) (p : Array Nat) : Prop := p.toList.Perm (List.range N)
theorem Ok.size {N : Nat} {p : Array Nat} (h : Ok N p) : p.size = N := by
  have := List.Perm.length_eq h
  rw [List.length_range, Array.length_toList] at this
  exact this
theorem getD_at {p : Array Nat} {a : Nat} (h : a < p.size) : p.getD a 0 = p[a] := by simp [Array.getD, h]
theorem Ok.lt {N : Nat} {p : Array Nat} (h : Ok N p) {a : Nat} (ha : a < N) : p.getD a 0 < N := by
  have h1 : a < p.size := by rw [h.size]; exact ha
  rw [getD_at h1]
  have : p[a] ∈ p.toList := by simp
  exact List.mem_range.mp ((List.Perm.mem_iff h).mp this)
theorem Ok.of {N : Nat} {p q : Array Nat} (h : Ok N p) (e : q.Perm p) : Ok N q := (Array.perm_iff_toList_perm.mp e).trans h
theorem kv_of {p q : Array Nat} {a b : Nat} (h : p[a]? = q[b]?) : kv key p a = kv key q b := by
  unfold kv
  rw [Array.getD_eq_getD_getElem?, Array.getD_eq_getD_getElem?, h]
theorem kv_rev {p : Array Nat} {i j : Nat} (hj : j ≤ p.size) (a : Nat) : kv key (kas_rev p i j) a = if i ≤ a ∧ a < j then kv key p (i + j - 1 - a) else kv key p a := by
  have e := getElem?_mirror_all (xs := p) (i := i) hj a
  by_cases c : i ≤ a ∧ a < j
  · rw [if_pos c] at e ⊢
    exact kv_of e
  · rw [if_neg c] at e ⊢
    exact kv_of e
theorem Up.of {p q : Array Nat} {m : Nat} (h : Up key p m) (e : ∀ a, kv key q a = kv key p a) : Up key q m := fun a b h1 h2 => by rw [e, e]; exact h a b h1 h2
theorem Dn.of {p q : Array Nat} {m : Nat} (h : Dn key p m) (e : ∀ a, kv key q a = kv key p a) : Dn key q m := fun a b h1 h2 => by rw [e, e]; exact h a b h1 h2
theorem Up.snoc {p : Array Nat} {m : Nat} (h : Up key p m) (c : ¬ kv key p m < kv key p (m - 1)) : Up key p (m + 1) := fun a b h1 h2 => by
  by_cases e : b < m
  · exact h a b h1 e
  · have e : b = m := by omega
    subst e
    by_cases d : a = b
    · rw [d]; exact Int.le_refl _
    · have := h a (b - 1) (by omega) (by omega)
      omega
theorem Dn.snoc {p : Array Nat} {m : Nat} (h : Dn key p m) (c : kv key p m ≤ kv key p (m - 1)) : Dn key p (m + 1) := fun a b h1 h2 => by
  by_cases e : b < m
  · exact h a b h1 e
  · have e : b = m := by omega
    subst e
    by_cases d : a = b
    · rw [d]; exact Int.le_refl _
    · have := h a (b - 1) (by omega) (by omega)
      omega
theorem Dn.turn {p : Array Nat} {m : Nat} (h : Dn key p m) (hz : m ≤ p.size) : Up key (kas_rev p 0 m) m := fun a b h1 h2 => by
  rw [kv_rev hz, kv_rev hz, if_pos (by omega), if_pos (by omega)]
  exact h _ _ (by omega) (by omega)
variable {cmp : Nat → Nat → (Bool → Shared → Prop) → Shared → Prop} {s : Shared} {N : Nat}
end
end FxS

set_option genSizeOf false
set_option genInjectivity false
namespace L2
open PySem PySem.Spec PyProof.Rows
section
variable {X : Cx} {tg : Expr}
end
section
variable {X : Cx}
end
section
variable {X : Cx}
end
noncomputable def TupsV (F : Nat → List V → Prop) (H : Hp) (xs : List V) : Prop := ∀ (k : Nat) x, xs[k]? = some x → ∃ t vs, x = .ref t ∧ H t = some (.tup vs) ∧ F k vs
theorem TupsV.mono {F G : Nat → List V → Prop} {H H' : Hp} {xs : List V} (h : TupsV F H xs) (hs : ∀ t vs, H t = some (.tup vs) → H' t = some (.tup vs)) (hf : ∀ k vs, F k vs → G k vs) : TupsV G H' xs := fun k x e =>
  let ⟨t, vs, e1, e2, e3⟩ := h k x e
  ⟨t, vs, e1, hs _ _ e2, hf _ _ e3⟩
theorem TupsV.row {H : Hp} : ∀ {xs : List V} {r : List (Int × Int)}, xs.length = r.length → TupsV (fun k vs => vs = [.int (r.getD k (0, 0)).1, .int (r.getD k (0, 0)).2]) H xs → RowV H xs r
  | [], [], _, _ => .nil
  | [], _ :: _, e, _ => nomatch e
  | _ :: _, [], e, _ => nomatch e
  | x :: xs, p :: r, e, h => by
    obtain ⟨t, vs, e1, e2, e3⟩ := h 0 x rfl
    refine .cons ⟨t, e1, ?_⟩ (TupsV.row (Nat.succ.inj e) fun k y hy => h (k + 1) y hy)
    rw [e2, e3]
    rfl
section
variable {X : Cx}
end
end L2

set_option genSizeOf false
set_option genInjectivity false
namespace FxS
open PySem PySem.Spec PyProof.Rows
section
variable {prog : Program} {w : World} {A : Around} {E : Value → Shared → Prop} {s : Shared} {b₀ : Array Keyed}
end
end FxS

set_option genSizeOf false
set_option genInjectivity false
namespace L2
open PySem PySem.Spec PyProof.Rows
section
variable {X : Cx}
end
end L2

set_option genSizeOf false
set_option genInjectivity false
namespace FxS
open PySem PySem.Spec PyProof.Rows PySem.W
section
variable {prog : Program} {w : World} {A : Around} {E : Value → Shared → Prop} {s : Shared}
noncomputable def PrAt (h : Heap) (v : Value) (x y : Int) : Prop := ∃ (a : Addr) (o : Obj) (tx ty : Tok) (n : Nat), v = .ref a ∧ h.get? a = some o ∧ o.cls = .type "tuple" ∧ o.data = .seq #[.int x tx, .int y ty] n
noncomputable def Prs (h : Heap) (vs : List Value) (ps : List (Int × Int)) : Prop := vs.length = ps.length ∧ ∀ i, i < ps.length → PrAt h (vs.getD i Value.none) (ps.getD i (0, 0)).1 (ps.getD i (0, 0)).2
theorem Prs.tups {h : Heap} : ∀ {vs : List Value} {ps : List (Int × Int)}, Prs h vs ps → ∃ fs, KatTups h vs fs ∧ fs.length = vs.length ∧ ∀ f, f ∈ fs → ∃ n t, f = Value.int n t
  | [], _, _ => ⟨[], trivial, rfl, fun f hf => nomatch hf⟩
  | v :: vs, [], hp => nomatch hp.1
  | v :: vs, p :: ps, hp => by
    obtain ⟨fs, h1, h2, h3⟩ := Prs.tups (vs := vs) (ps := ps) ⟨Nat.succ.inj hp.1, fun i hi => hp.2 (i + 1) (Nat.succ_lt_succ hi)⟩
    obtain ⟨a, o, tx, ty, n, e, ha, ca, da⟩ := hp.2 0 (Nat.zero_lt_succ _)
    have e : v = .ref a := e
    subst e
    refine ⟨_ :: fs, KatTups.cons ha ca da rfl h1, by rw [List.length_cons, List.length_cons, h2], fun f hf => ?_⟩
    rcases List.mem_cons.mp hf with rfl | hf
    · exact ⟨_, _, rfl⟩
    · exact h3 f hf
end
end FxS
namespace L2
open PySem PySem.Spec PyProof.Rows
section
variable {X : Cx}
end
end L2

set_option genSizeOf false
set_option genInjectivity false
namespace L2
open PySem PySem.Spec PyProof.Rows
section
variable {X : Cx}
end
theorem RowV.mono {H H' : Hp} {xs : List V} {r : List (Int × Int)} (h : RowV H xs r) (hs : ∀ t ws, H t = some (.tup ws) → H' t = some (.tup ws)) : RowV H' xs r := Paired.mapP h fun v p ⟨t, e1, e2⟩ => ⟨t, e1, hs _ _ e2⟩
end L2

set_option genSizeOf false
set_option genInjectivity false
namespace L2
open PySem PySem.Spec PyProof.Rows
section
variable {X : Cx}
theorem pe_callD0 {k : Nat} {x : Str} {ps : List Str} {sp : Sp} {p pos : Pos} (D : Dfn X.prog X.w X.K X.mg X.base x k ps sp) (hr : Room k X.A) (hg : Gl X x) (hdb : (x == ("__debug__" : Str)) = false := by decide +kernel) :
    PE X (.Call (.Name x p) [] [] pos) (tCall sp [] E0 tNil) := by
  obtain ⟨f, fd, hm, hk, hb, F⟩ := D
  exact pe_call0 F hr hg hm hk hb .nil pass0 hdb
theorem pe_weak {e : Expr} {t t' : TE} (h : PE X e t) (w : ∀ σ H Q, t' σ H Q → t σ H Q) : PE X e t' := fun pins s σ H Q I q => h pins s σ H Q I (w σ H Q q)
theorem pa_weak {es : List Expr} {t t' : TA} (h : PA X es t) (w : ∀ σ H Q, t' σ H Q → t σ H Q) : PA X es t' := fun pos pins s σ H Q I q => h pos pins s σ H Q I (w σ H Q q)
noncomputable def NoStar (e : Expr) : Prop := ∀ (es : List Expr) (env : Env), starEach (e :: es) env = (false, eval e env) :: starEach es env
theorem ns_con {v : Const} {k : Nat} {p : Pos} : NoStar (.Constant v k p) := fun _ _ => rfl
theorem ns_un {o : UnaryOp} {e : Expr} {p : Pos} : NoStar (.UnaryOp o e p) := fun _ _ => rfl
theorem ns_tup {l : List Expr} {k : Nat} {p : Pos} : NoStar (.Tuple l k p) := fun _ _ => rfl
inductive NoStars : List Expr → Prop
  | nil : NoStars []
  | cons {e : Expr} {es : List Expr} : NoStar e → NoStars es → NoStars (e :: es)
theorem NoStars.pl {pos : Pos} {env : Env} : ∀ {es : List Expr}, NoStars es → (backTo pos (starEach es env)).any (·.1) = false
  | _, .nil => rfl
  | _, .cons h r => by
    rw [h]
    have := NoStars.pl (pos := pos) (env := env) r
    unfold backTo at this ⊢
    rw [List.map_cons, List.any_cons, this]
    rfl
inductive Lit : Expr → Int → Prop
  | con {i j : Int} {k : Nat} {p : Pos} : j = i → Lit (.Constant (.int i) k p) j
  | neg {i j : Int} {k : Nat} {p p' : Pos} : j = -i → Lit (.UnaryOp .USub (.Constant (.int i) k p) p') j
theorem Lit.ns {e : Expr} {i : Int} (h : Lit e i) : NoStar e := by
  cases h
  · exact ns_con
  · exact ns_un
theorem Lit.pe {e : Expr} {i : Int} (h : Lit e i) : PE X e (tC (.int i)) := by
  cases h with
  | con e => subst e; exact pe_int
  | neg e => subst e; exact pe_weak (pe_un un_neg pe_int) fun σ H Q q => ⟨_, rfl, q⟩
inductive Lits : List Expr → List Int → Prop
  | nil : Lits [] []
  | cons {e : Expr} {es : List Expr} {i : Int} {is : List Int} : Lit e i → Lits es is → Lits (e :: es) (i :: is)
noncomputable def tVals (vs : List V) : TA := fun _ H Q => Q vs H
theorem Lits.pa : ∀ {es : List Expr} {is : List Int}, Lits es is → PA X es (tVals (is.map V.int))
  | _, _, .nil => pa_weak pa_nil fun _ _ _ q => q
  | _, _, .cons h r => pa_weak (pa_cons h.pe r.pa (h.ns _ _)) fun _ _ _ q => q
noncomputable def tNewI (is : List Int) : TE := fun _ H Q => ∀ H' l, Same H H' → H' l = some (.lst (is.map V.int)) → Q (.ref l) H'
theorem Lits.pe {es : List Expr} {is : List Int} {p : Pos} (h : Lits es is) (hl : is.length ≤ sizeLine) : PE X (.List es p) (tNewI is) :=
  pe_weak (pe_lst h.pa) fun σ H Q q => ⟨by rw [List.length_map]; exact hl, fun u n => q _ u (Same.upd n) upd_same⟩
inductive LitP : Expr → Int → Int → Prop
  | mk {a b : Expr} {i j : Int} {k : Nat} {p : Pos} : Lit a i → Lit b j → LitP (.Tuple [a, b] k p) i j
theorem LitP.ns {e : Expr} {i j : Int} (h : LitP e i j) : NoStar e := by
  cases h
  exact ns_tup
noncomputable def tNewP (i j : Int) : TE := fun _ H Q => ∀ H' t, Same H H' → H' t = some (.tup [.int i, .int j]) → Q (.ref t) H'
theorem LitP.pe {e : Expr} {i j : Int} (h : LitP e i j) : PE X e (tNewP i j) := by
  cases h with
  | mk a b => exact pe_weak (pe_tup (Lits.cons a (.cons b .nil)).pa) fun σ H Q q => ⟨(by show 2 ≤ sizeLine; decide), fun u n => q _ u (Same.upd n) upd_same⟩
inductive LitR : List Expr → List (Int × Int) → Prop
  | nil : LitR [] []
  | cons {e : Expr} {es : List Expr} {i j : Int} {r : List (Int × Int)} : LitP e i j → LitR es r → LitR (e :: es) ((i, j) :: r)
theorem LitR.pa : ∀ {es : List Expr} {r : List (Int × Int)}, LitR es r → PA X es (fun _ H Q => ∀ H' xs, Same H H' → RowV H' xs r → Q xs H')
  | _, _, .nil => pa_weak pa_nil fun _ H _ q => q H [] (fun _ _ z => z) .nil
  | _, _, .cons h r => pa_weak (pa_cons h.pe r.pa (h.ns _ _)) fun _ H _ q H1 t s1 e1 H2 xs s2 x2 => q H2 (.ref t :: xs) (s1.trans s2) (.cons ⟨t, rfl, s2 _ _ e1⟩ x2)
noncomputable def tNewR (r : List (Int × Int)) : TE := fun _ H Q => ∀ H' l xs, Same H H' → H' l = some (.lst xs) → RowV H' xs r → Q (.ref l) H'
theorem LitR.pe {es : List Expr} {r : List (Int × Int)} {p : Pos} (h : LitR es r) (hl : r.length ≤ sizeLine) : PE X (.List es p) (tNewR r) :=
  pe_weak (pe_lst h.pa) fun σ H Q q H1 xs s1 x1 => ⟨by rw [x1.length]; exact hl, fun u n => q _ u xs (s1.trans (Same.upd n)) upd_same (RowV.same (Same.upd n) x1)⟩
theorem NoStars.all {pos : Pos} {env : Env} : ∀ {es : List Expr}, NoStars es → (backTo pos (starEach es env)).all (!·.1) = true
  | _, .nil => rfl
  | _, .cons h r => by
    rw [h]
    have := NoStars.all (pos := pos) (env := env) r
    unfold backTo at this ⊢
    rw [List.map_cons, List.all_cons, this]
    rfl
end
end L2

set_option genSizeOf false
set_option genInjectivity false
namespace L2
open PySem PySem.Spec PyProof.Rows
theorem mapFields_dict (f : Array Value → Array Value) (o : Obj) : (o.mapFields f).dict = o.dict := by
  obtain ⟨c, d, dt, sl⟩ := o
  cases dt <;> rfl
noncomputable def ExcAt (G : Value → Prop) (h B : Heap) (e : Addr) (cls fl : Value) : Prop := ∃ oe vs T oT ts, h.get? e = some oe ∧ (oe.cls = cls ∧ oe.dict = none) ∧ oe.data = .fields vs ∧ (∃ cx, vs[2]? = some cx ∧ G cx) ∧ vs[1]? = some (.ref T) ∧ B.get? T = none ∧ T ≠ e ∧ h.get? T = some oT ∧ oT.data = .fields ts ∧ ts[3]? = some fl
structure Fly (G : Value → Prop) (B : Heap) (l : List Env) (e : Addr) (cls fl : Value) (h : Heap) : Prop where
  st : B.StaysIn h
  new : B.get? e = none
  fr : h.FunFrames B l
  ex : ExcAt G h B e cls fl
theorem Fly.tail {G : Value → Prop} {B h : Heap} {env : Env} {l : List Env} {e : Addr} {cls fl : Value} (F : Fly G B (env :: l) e cls fl h) : Fly G B l e cls fl h := ⟨F.st, F.new, F.fr.2.2, F.ex⟩
theorem Fly.at {G : Value → Prop} {B h : Heap} {l : List Env} {e : Addr} {cls fl : Value} (F : Fly G B l e cls fl h) : ∃ oe vs, h.get? e = some oe ∧ (oe.cls = cls ∧ oe.dict = none) ∧ oe.data = .fields vs ∧ ∃ cx, vs[2]? = some cx ∧ G cx := by
  obtain ⟨oe, vs, _, _, _, a, b, c, d, _⟩ := F.ex
  exact ⟨oe, vs, a, b, c, d⟩
section
variable {M : Model} {A : Around} {E : Value → Shared → Prop} {s : Shared} {G : Value → Prop} {B : Heap} {env : Env} {outer : List Env} {L e : Addr} {cls head : Value} {oe : Obj} {vs : Array Value} {Q : Unit → Shared → Prop}
theorem entry_ok {hn : Bool} (hfr : A.frames = some (env :: outer)) (hf : env.frame = some L) (st : B.StaysIn s.heap) (new : B.get? e = none) (fr : s.heap.FunFrames B (env :: outer))
    (he : s.heap.get? e = some oe) (hc : oe.cls = cls ∧ oe.dict = none) (hd : oe.data = .fields vs) (h2 : ∃ cx, vs[2]? = some cx ∧ G cx) (q : ∀ h', Fly G B (env :: outer) e cls (rawInt L) h' → s.heap.UpToSlots h' → Q () { s with heap := h' }) :
    wpAny M A (do let x ← frameOf env; let y ← entryPlaceOf L hn; let z ← EntryCells.newEntry head x .none (rawInt L) .none y; setField (.ref e) 1 z) Q E s := by
  have ne : e ∉ (env :: outer).filterMap (·.frame) := fun m => by
    obtain ⟨_, o, ho, nf⟩ := fr.mem m
    rw [he] at ho
    cases ho
    exact nf vs hd
  obtain ⟨cx, h2, hG⟩ := h2
  have sz : 2 < vs.size := (Array.getElem?_eq_some_iff.mp h2).1
  refine wpAny_bind (wpAny_frameOf_fun hfr fr hf fun g hs => wpAny_bind (wpAny_entryPlaceOf fun pl hp => ?_))
  unfold EntryCells.newEntry newFields
  refine wpAny_bind (wpAny_newObj_type ?_ (hp.sizeOk5 _ _ _ _ _))
  have eg : g.get? e = some oe := (hs.2.1 e ne).trans he
  have sg : B.StaysIn g := fun b o z => (hs.2.1 b fun m => by rw [(fr.mem m).1] at z; cases z).trans (st b o z)
  generalize hT : ({ cls := Value.type "traceback", dict := none, data := .fields ([head, .ref L, .none, rawInt L, .none] ++ (if pl.isEmpty then List.replicate 6 Value.none else pl)).toArray } : Obj) = oT
  have nT : g.objs.size ≠ e := Nat.ne_of_gt (Heap.lt_size eg)
  have ep := Heap.get?_push_of_some (h := g) oT eg
  refine wpAny_setField ep hd (Nat.lt_trans (by decide) sz) (q _ ?_ ?_)
  all_goals
    have dd := Obj.data_mapFields hd (·.setIfInBounds 1 (Value.ref g.objs.size))
    have kp : ∀ b o, b ≠ e → g.get? b = some o → ((g.push oT).update e (Obj.mapFields (·.setIfInBounds 1 (Value.ref g.objs.size)))).get? b = some o := fun b o n z => by
      rw [Heap.get?_update_other _ _ fun y => n y.symm]
      exact Heap.get?_push_of_some _ z
    have nr : ∀ b o, s.heap.get? b = some o → (∀ ws, o.data ≠ .fields ws) → b ≠ e := fun b o z nf y => by
      rw [y, he] at z
      cases z
      exact nf vs hd
  · refine ⟨fun b o z => kp b o (fun y => by rw [y, new] at z; cases z) (sg b o z), new, fr.of_keeps fun b o z nf => ?_, ?_⟩
    · obtain ⟨sl, y⟩ := hs.2.2 b o z
      exact ⟨_, kp b _ (nr b o z nf) y, rfl⟩
    · refine ⟨_, _, g.objs.size, oT, _, Heap.get?_update_self _ ep (Obj.isFreed_of_fields dd), ⟨by rw [Obj.cls_mapFields]; exact hc.1, by rw [mapFields_dict]; exact hc.2⟩, dd, ⟨cx, by rw [Array.getElem?_setIfInBounds_ne (by decide)]; exact h2, hG⟩, ?_, sg.fresh, nT, ?_, by rw [← hT], ?_⟩
      · rw [Array.getElem?_setIfInBounds_self_of_lt (Nat.lt_trans (by decide) sz)]
      · rw [Heap.get?_update_other _ _ nT.symm]
        exact Heap.get?_push_size g (by rw [← hT]; rfl)
      · rw [List.getElem?_toArray, List.getElem?_append_left (by show 3 < 5; decide)]
        rfl
  · intro b o z nf
    obtain ⟨sl, y⟩ := hs.2.2 b o z
    exact ⟨sl, kp b _ (nr b o z nf) y⟩
theorem note_new (hfr : A.frames = some (env :: outer)) (hf : env.frame = some L) (st : B.StaysIn s.heap) (new : B.get? e = none) (fr : s.heap.FunFrames B (env :: outer))
    (he : s.heap.get? e = some oe) (hc : oe.cls = cls ∧ oe.dict = none) (hd : oe.data = .fields vs) (h1 : vs[1]? = some .none) (h2 : ∃ cx, vs[2]? = some cx ∧ G cx) (q : ∀ h', Fly G B (env :: outer) e cls (rawInt L) h' → s.heap.UpToSlots h' → Q () { s with heap := h' }) :
    wpAny M A (noteFrame (.ref e) env) Q E s := by
  unfold noteFrame
  simp only [hf]
  refine wpAny_bind (wpAny_field he hd h1 ?_)
  rw [if_neg (by decide)]
  exact entry_ok hfr hf st new fr he hc hd h2 q
theorem note_on (hfr : A.frames = some (env :: outer)) (hf : env.frame = some L) (F : Fly G B (env :: outer) e cls .none s.heap) (q : ∀ h', Fly G B (env :: outer) e cls (rawInt L) h' → s.heap.UpToSlots h' → Q () { s with heap := h' }) :
    wpAny M A (noteFrame (.ref e) env) Q E s := by
  obtain ⟨st, new, fr, oe, vs, T, oT, ts, he, hc, hd, h2, h1, bT, nT, hT, dT, h3⟩ := F
  have tz : 3 < ts.size := (Array.getElem?_eq_some_iff.mp h3).1
  unfold noteFrame
  simp only [hf]
  refine wpAny_bind (wpAny_field he hd h1 ?_)
  rw [if_pos (by simp)]
  refine wpAny_bind (wpAny_field hT dT h3 ?_)
  rw [if_neg (by simp [rawInt])]
  refine wpAny_bind (wpAny_setField hT dT tz ?_)
  have ot : ∀ b, b ≠ T → (s.heap.update T (Obj.mapFields (·.setIfInBounds 3 Value.none))).get? b = s.heap.get? b := fun b n => Heap.get?_update_other _ _ fun z => n z.symm
  have nr : ∀ b o, s.heap.get? b = some o → (∀ ws, o.data ≠ .fields ws) → b ≠ T := fun b o z nf y => by
    rw [y, hT] at z
    cases z
    exact nf ts dT
  refine entry_ok hfr hf (fun b o z => (ot b fun y => by rw [y, bT] at z; cases z).trans (st b o z)) new (fr.of_keeps fun b o z nf => ⟨o, (ot b (nr b o z nf)).trans z, rfl⟩) ((ot e nT.symm).trans he) hc hd h2 fun h' F' U => q h' F' fun b o z nf => U b o ((ot b (nr b o z nf)).trans z) nf
theorem land_ok {l : List Env} {fl : Value} (F : Fly G B l e cls fl s.heap) (q : ∀ h', Fly G B l e cls .none h' → s.heap.UpToSlots h' → Q () { s with heap := h' }) : wpAny M A (setFlight (.ref e) none) Q E s := by
  obtain ⟨st, new, fr, oe, vs, T, oT, ts, he, hc, hd, h2, h1, bT, nT, hT, dT, h3⟩ := F
  have tz : 3 < ts.size := (Array.getElem?_eq_some_iff.mp h3).1
  unfold setFlight
  refine wpAny_bind (wpAny_field he hd h1 ?_)
  rw [if_pos (by simp)]
  have ot : ∀ (f : Obj → Obj) b, b ≠ T → (s.heap.update T f).get? b = s.heap.get? b := fun f b n => Heap.get?_update_other _ _ fun z => n z.symm
  have nr : ∀ b o, s.heap.get? b = some o → (∀ ws, o.data ≠ .fields ws) → b ≠ T := fun b o z nf y => by
    rw [y, hT] at z
    cases z
    exact nf ts dT
  have du := Obj.data_mapFields dT (·.setIfInBounds 3 ((none : Option Addr).elim Value.none fun f => rawInt f))
  refine wpAny_setField hT dT tz (q _ ⟨fun b o z => (ot _ b fun y => by rw [y, bT] at z; cases z).trans (st b o z), new, fr.of_keeps fun b o z nf => ⟨o, (ot _ b (nr b o z nf)).trans z, rfl⟩, oe, vs, T, _, _, (ot _ e nT.symm).trans he, hc, hd, h2, h1, bT, nT, Heap.get?_update_self _ hT (Obj.isFreed_of_fields du), du, ?_⟩ fun b o z nf => ⟨o.slots, (ot _ b (nr b o z nf)).trans z⟩)
  rw [Array.getElem?_setIfInBounds_self_of_lt tz]
  rfl
theorem leave_on (hfr : A.frames = some (env :: outer)) (hf : env.frame = some L) (F : Fly G B (env :: outer) e cls .none s.heap) (q : ∀ h', Fly G B outer e cls .none h' → s.heap.UpToSlots h' → Q () { s with heap := h' }) :
    wpAny M A (leaving env (.ref e)) Q E s := by
  unfold leaving
  refine wpAny_bind (note_on hfr hf F fun g F1 U1 => land_ok F1 fun h' F2 U2 => q h' F2.tail (U1.trans U2))
theorem leave_new (hfr : A.frames = some (env :: outer)) (hf : env.frame = some L) (st : B.StaysIn s.heap) (new : B.get? e = none) (fr : s.heap.FunFrames B (env :: outer))
    (he : s.heap.get? e = some oe) (hc : oe.cls = cls ∧ oe.dict = none) (hd : oe.data = .fields vs) (h1 : vs[1]? = some .none) (h2 : ∃ cx, vs[2]? = some cx ∧ G cx) (q : ∀ h', Fly G B outer e cls .none h' → s.heap.UpToSlots h' → Q () { s with heap := h' }) :
    wpAny M A (leaving env (.ref e)) Q E s := by
  unfold leaving
  refine wpAny_bind (note_new hfr hf st new fr he hc hd h1 h2 fun g F1 U1 => land_ok F1 fun h' F2 U2 => q h' F2.tail (U1.trans U2))
end
noncomputable def CXG (G : Value → Prop) (P : Program) (w : World) : CXT := fun outer H s E e s' => ∃ (x C : Addr) (B : Heap) (H' : Hp), e = .ref x ∧ s'.os = s.os ∧ AllBare s'.gens ∧ Un (frs outer) [] H H' s.heap s'.heap ∧ HOk P w H' s'.heap ∧ s.heap.get? x = none ∧ H' x = none ∧
  Fly G B outer x (.ref C) .none s'.heap ∧ (∀ b o, s'.heap.get? b = some o → ((∃ u, s.heap.get? b = some u) ∨ ∃ u, H' b = some u) → b ∉ frs outer → B.get? b = some o) ∧ E (.ref C) (some x) H'
noncomputable abbrev Gn : Value → Prop := fun c => c = .none
noncomputable abbrev CXE (P : Program) (w : World) : CXT := CXG Gn P w
theorem ObjOk.here {P : Program} {w : World} {H : Hp} {h : Heap} {a : Addr} {o : HO} (x : ObjOk P w H h a o) : ∃ u, h.get? a = some u := by
  induction o with
  | lst xs => obtain ⟨_, _, _, _, e⟩ := x; exact ⟨_, e⟩
  | tup xs => obtain ⟨_, _, _, ob, e, _⟩ := x; exact ⟨_, e⟩
  | dK kvs => obtain ⟨_, _, _, _, o, _, _, e, _⟩ := x; exact ⟨_, e⟩
  | dT kvs => obtain ⟨_, _, _, _, o, _, _, e, _⟩ := x; exact ⟨_, e⟩
  | set S n => obtain ⟨o, _, _, _, e, _⟩ := x; exact ⟨_, e⟩
  | ins C dx fs => obtain ⟨_, _, _, e, _⟩ := x; exact ⟨_, e⟩
  | own y => exact x
  | xd fs => obtain ⟨_, ⟨o, _, _, e, _⟩, _⟩ := x; exact ⟨_, e⟩
  | met f y => exact ⟨_, x⟩
  | rng lo hi => obtain ⟨_, _, _, e⟩ := x; exact ⟨_, e⟩
  | frz o u ih => exact ⟨_, x.1⟩
  | tbl ps => exact ⟨_, x⟩
  | ext φ => exact x.2.1
section
variable {X : Cx} {G : Value → Prop} {pins : List (Addr × Obj)} {σ : L2.St} {H H' : Hp} {s : Shared} {h1 h2 B : Heap} {x C : Addr}
theorem cxe_end {s2 : Shared} {E : XK} (I : Inv X pins σ H s) (hst : X.stack = X.env :: X.outer) (hf : X.env.frame = some X.env.locals) (hex : X.ex = [])
    (un : Un (frs X.stack) [] H H' s.heap h1) (hok : HOk X.prog X.w H' h1) (hx : s.heap.get? x = none) (hx' : H' x = none)
    (kb : ∀ b o, h1.get? b = some o → ((∃ u, X.s₀.heap.get? b = some u) ∨ ∃ u, H' b = some u) → b ∉ frs X.stack → B.get? b = some o)
    (F : Fly G B X.outer x (.ref C) .none h2) (U : ∀ b ∈ frs X.outer, ∀ o, h1.get? b = some o → (∀ vs, o.data ≠ .fields vs) → ∃ sl, h2.get? b = some { o with slots := sl }) (e : E (.ref C) (some x) H') (hs : s2.heap = h2) (ho : s2.os = s.os) (hg : AllBare s2.gens) : CXG G X.prog X.w X.outer X.H₀ X.s₀ E (.ref x) s2 := by
  subst hs
  have fs : ∀ b, b ∈ frs X.stack ↔ b = X.env.locals ∨ b ∈ frs X.outer := fun b => by
    rw [hst]
    unfold frs
    rw [List.filterMap_cons, hf]
    exact List.mem_cons
  obtain ⟨Lo, hLo⟩ : ∃ o, s.heap.get? X.env.locals = some o := by
    obtain ⟨m, ⟨o, _, _, z, _⟩, _⟩ := I.loc
    exact ⟨o, z⟩
  have hL' : H' X.env.locals = none := un.free _ _ hLo I.free (by simp)
  have old : ∀ b o, X.s₀.heap.get? b = some o → b ≠ X.env.locals := fun b o z y => by
    exact absurd (Nat.lt_of_lt_of_le (Heap.lt_size z) I.ok.above) (by rw [y]; exact Nat.lt_irrefl _)
  have ins : ∀ b o, X.s₀.heap.get? b = some o → ∃ u, s.heap.get? b = some u := fun b o z => I.base.there b o z (by rw [hex]; simp)
  have nex : ∀ b, b ∉ X.ex := fun b => by rw [hex]; simp
  -- what is neither a frame nor the exception's own stays
  have stay : ∀ b o, h1.get? b = some o → ((∃ u, X.s₀.heap.get? b = some u) ∨ ∃ u, H' b = some u) → b ∉ frs X.stack → s2.heap.get? b = some o := fun b o z y n => F.st b o (kb b o z y n)
  have frn : ∀ b, b ∈ frs X.outer → H' b = none := fun b m => by
    obtain ⟨_, o, z, _⟩ := I.ok.funs.mem m
    have z1 := I.base.free b o z (I.ok.frf b m) (nex b)
    obtain ⟨o1, z2⟩ := ins b o z
    exact un.free b o1 z2 z1 (by simp)
  have trn : ∀ b u, H' b = some u → b ∉ frs X.stack := fun b u z m => by
    rcases (fs b).mp m with y | y
    · rw [y, hL'] at z; cases z
    · rw [frn b y] at z; cases z
  refine ⟨x, C, B, H', rfl, ho.trans I.os, hg, ⟨fun b o z n m _ => ?_, fun b o z n m _ => ?_, fun b o z n _ => ?_, fun b o z _ => ?_, fun b xs z => un.tups b xs (I.base.tups b xs z), fun b o u z => un.frzs b o u (I.base.frzs b o u z), fun b ps z => ?_⟩, fun a o z => ?_, ?_, hx', F, fun b o z y n => ?_, e⟩
  · have z1 := I.base.keep b o z n m (nex b)
    have nf : b ∉ frs X.stack := fun y => ((fs b).mp y).elim (old b o z) m
    exact stay b o (un.keep b o z1 (I.base.free b o z n (nex b)) nf (by simp)) (.inl ⟨_, z⟩) nf
  · obtain ⟨sl, z1⟩ := I.base.slot b o z n m (nex b)
    obtain ⟨sl', z2⟩ := un.slot b _ z1 (I.base.free b o z n (nex b)) ((fs b).mpr (.inr m)) (by simp)
    obtain ⟨_, o2, z3, nf⟩ := I.ok.funs.mem m
    rw [z] at z3
    cases z3
    obtain ⟨sl2, z4⟩ := U b m _ z2 nf
    exact ⟨sl2, z4⟩
  · obtain ⟨o1, z1⟩ := ins b o z
    exact un.free b o1 z1 (I.base.free b o z n (nex b)) (by simp)
  · by_cases m : b ∈ frs X.outer
    · obtain ⟨_, o2, z3, nf⟩ := I.ok.funs.mem m
      rw [z] at z3
      cases z3
      obtain ⟨sl, z1⟩ := I.base.slot b o z (I.ok.frf b m) m (nex b)
      obtain ⟨sl', z2⟩ := un.slot b _ z1 (I.base.free b o z (I.ok.frf b m) (nex b)) ((fs b).mpr (.inr m)) (by simp)
      obtain ⟨sl2, z4⟩ := U b m _ z2 nf
      exact ⟨_, z4⟩
    · obtain ⟨o1, z1⟩ := ins b o z
      obtain ⟨o2, z2⟩ := un.there b o1 z1 (by simp)
      exact ⟨_, stay b o2 z2 (.inl ⟨_, z⟩) fun y => ((fs b).mp y).elim (old b o z) m⟩
  · obtain ⟨more, z1⟩ := I.base.tbls b ps z
    obtain ⟨more2, z2⟩ := un.tbls b _ z1
    exact ⟨more ++ more2, by rw [z2, Array.append_assoc]⟩
  · refine (hok a o z).stay (fun b u m y => ?_) (fun _ y => y) fun _ _ y => y
    have tr : ∃ u, H' b = some u := by
      rcases m with rfl | m
      · exact ⟨_, z⟩
      · exact ⟨_, m⟩
    exact stay b u y (.inr tr) (trn b _ tr.choose_spec)
  · cases y : X.s₀.heap.get? x with
    | none => rfl
    | some o =>
      obtain ⟨o1, z1⟩ := ins x o y
      rw [hx] at z1
      cases z1
  · have nf : b ∉ frs X.stack := fun m => by
      rcases (fs b).mp m with w | w
      · rcases y with ⟨u, y⟩ | ⟨u, y⟩
        · exact old b u y w
        · exact trn b u y m
      · exact n w
    have y1 : (∃ u, s.heap.get? b = some u) ∨ ∃ u, H' b = some u := y.imp (fun ⟨u, z⟩ => ins b u z) id
    have h1b : ∃ o1, h1.get? b = some o1 := by
      rcases y1 with ⟨u, y⟩ | ⟨u, y⟩
      · exact un.there b u y (by simp)
      · exact (hok b u y).here
    obtain ⟨o1, z1⟩ := h1b
    have := stay b o1 z1 y nf
    rw [z] at this
    cases this
    exact kb b o z1 y nf
theorem passE {E : XK} (hst : X.stack = X.env :: X.outer) (hf : X.env.frame = some X.env.locals) (hex : X.ex = [])
    (hxe : X.xe = fun e s' => wpAny (model X.prog X.w) X.A (leaving X.env e) (fun _ s'' => CXG G X.prog X.w X.outer X.H₀ X.s₀ E e s'') (fun e' s'' => CXG G X.prog X.w X.outer X.H₀ X.s₀ E e' s'') s') : Passes (CXG G X.prog X.w) X E := by
  intro pins σ H s e s' I h
  obtain ⟨x, C, B, H', rfl, ho, hg, un, hok, hx, hx', F, kb, q⟩ := h
  rw [hxe]
  have hfr := I.ok.frames
  rw [hst] at hfr F
  refine leave_on hfr hf F fun h' F' U => ?_
  exact cxe_end I hst hf hex un hok hx hx' (fun b o z y n => kb b o z (y.imp (fun ⟨u, w⟩ => I.base.there b u w (by rw [hex]; simp)) id) n) F' (fun b _ => U b) q rfl ho hg
theorem madeE {E : XK} {vs : List Value} (hG : G .none) (hst : X.stack = X.env :: X.outer) (hf : X.env.frame = some X.env.locals) (hex : X.ex = [])
    (hxe : X.xe = fun e s' => wpAny (model X.prog X.w) X.A (leaving X.env e) (fun _ s'' => CXG G X.prog X.w X.outer X.H₀ X.s₀ E e s'') (fun e' s'' => CXG G X.prog X.w X.outer X.H₀ X.s₀ E e' s'') s') (I : Inv X pins σ H s)
    (m : Heap.MadeExcOf s.heap h1 x (.ref C) vs) (q : E (.ref C) (some x) H) : X.xe (.ref x) { s with heap := h1 } := by
  rw [hxe]
  have hfr := I.ok.frames
  have fu := I.stack
  obtain ⟨t, he, _, _⟩ := m.there
  have hxn : H x = none := by
    cases y : H x with
    | none => rfl
    | some u =>
      obtain ⟨o, z⟩ := (I.hok x u y).here
      rw [m.new] at z
      cases z
  have st : (PySem.W.hideAll s.heap (frs X.stack)).StaysIn s.heap := fun b o z => PySem.W.of_hideAll _ z
  have fh : s.heap.FunFrames (PySem.W.hideAll s.heap (frs X.stack)) X.stack := PySem.W.funFrames_hide fu fun env he b hb => List.mem_filterMap.mpr ⟨env, he, hb⟩
  have nw : (PySem.W.hideAll s.heap (frs X.stack)).get? x = none := by
    cases y : (PySem.W.hideAll s.heap (frs X.stack)).get? x with
    | none => rfl
    | some o => have := st x o y; rw [m.new] at this; cases this
  have f1 : h1.FunFrames (PySem.W.hideAll s.heap (frs X.stack)) (X.env :: X.outer) := by
    rw [← hst]
    exact fh.of_keeps fun b o z _ => ⟨o, m.keeps b o z, rfl⟩
  have fr2 : X.A.frames = some (X.env :: X.outer) := by rw [← hst]; exact hfr
  refine leave_new (B := PySem.W.hideAll s.heap (frs X.stack)) (s := { s with heap := h1 }) fr2 hf (fun b o z => m.keeps b o (st b o z)) nw f1 he ⟨rfl, rfl⟩ rfl rfl ⟨_, rfl, hG⟩ fun h' F' U => ?_
  refine cxe_end I hst hf hex (Un.kept m.keeps) (I.hok.kept m.keeps) m.new hxn (fun b o z y n => ?_) F' (fun b _ => U b) q rfl rfl I.bare
  have z1 : ∃ u, s.heap.get? b = some u := by
    rcases y with ⟨u, y⟩ | ⟨u, y⟩
    · exact I.base.there b u y (by rw [hex]; simp)
    · exact (I.hok b u y).here
  obtain ⟨u, z1⟩ := z1
  have := m.keeps b u z1
  rw [z] at this
  cases this
  exact PySem.W.hideAll_get _ z1 n
end
end L2

set_option genSizeOf false
set_option genInjectivity false
namespace L2
open PySem PySem.Spec PyProof.Rows
noncomputable def ExcOG (G : Value → Prop) (x C : Addr) : HO := .ext fun h => ∃ oe vs, h.get? x = some oe ∧ (oe.cls = .ref C ∧ oe.dict = none) ∧ oe.data = .fields vs ∧ ∃ cx, vs[2]? = some cx ∧ G cx
noncomputable abbrev ExcO (x C : Addr) : HO := ExcOG Gn x C
structure ExcK (K : PySem.W.Frag) (C : Addr) : Prop where
  is : PySem.W.excIn K C [.type "ValueError", .type "Exception", .type "BaseException", .type "object"] "ValueError.__new__" = true
  cl : (PySem.W.clsIn K C).isSome = true
  ga : PySem.W.findIn K (.ref C) "__getattribute__" = some (some (.builtin "BaseException.__getattribute__"))
  gr : PySem.W.findIn K (.ref C) "__getattr__" = some none
  bs : PySem.W.mroIn K C (.type "BaseException") = some true
  ca : PySem.W.findIn K (.ref C) "__class__" = some (some (.builtin "object.__class__"))
  gt : PySem.W.specialIn K (.builtin "object.__class__") "__get__" = some (some (.builtin "getset_descriptor.__get__"))
  tk : PySem.W.takesIn K (.builtin "object.__class__") = some true
  ob : PySem.W.mroIn K C (.type "object") = some true
noncomputable def ExcIn (G : Value → Prop) (x C : Addr) (h : Heap) : Prop := ∃ oe vs, h.get? x = some oe ∧ (oe.cls = .ref C ∧ oe.dict = none) ∧ oe.data = .fields vs ∧ ∃ cx, vs[2]? = some cx ∧ G cx
theorem ExcIn.inst {G : Value → Prop} {x C : Addr} {h : Heap} (e : ExcIn G x C h) : ∃ ox, PySem.W.InstAt h x ox C none := by
  obtain ⟨oe, vs, h1, ⟨h2, h3⟩, h4, _⟩ := e
  refine ⟨oe, h1, h2, ?_, ?_⟩
  · obtain ⟨c, d, dt, sl⟩ := oe
    cases (show dt = _ from h4)
    rfl
  · rw [h3]
    trivial
theorem findObj_none {K : PySem.W.Frag} {C : Addr} {name : Str} {a g : Value} (hc : (PySem.W.clsIn K C).isSome = true) (ha : PySem.W.findIn K (.ref C) name = some (some a)) (hg : PySem.W.specialIn K a "__get__" = some (some g)) (ht : PySem.W.takesIn K a = some true) : PySem.W.findObj K C none name = some (.bind g a) := by
  obtain ⟨cd, hc⟩ := Option.isSome_iff_exists.mp hc
  unfold PySem.W.findObj
  rw [hc, Option.bind_some, ha, Option.bind_some]
  simp [hg, ht]
section
variable {prog : Program} {w : World} {A : Around} {E : Value → Shared → Prop} {s : Shared} {K : PySem.W.Frag} {x C : Addr} {ox : Obj}
theorem exc_check {M : Model} {nameV : Value} {Q : Unit → Shared → Prop} (X : K.In s.heap) (I : PySem.W.InstAt s.heap x ox C none) (hb : PySem.W.mroIn K C (.type "BaseException") = some true) (hq : Q () s) : wpAny M A (checkBuiltinCall "BaseException.__getattribute__" ⟨[.ref x, nameV], []⟩) Q E s := by
  obtain ⟨h, g, d, t, os⟩ := s
  have hk : builtinKind "BaseException.__getattribute__" = some .slot := by decide +kernel
  have hsplit : splitId "BaseException.__getattribute__" = some ("BaseException", "__getattribute__") := by decide +kernel
  have ha := F.args_bexc_ga (.ref x) nameV
  have L0 := I.type (M := M)
  have L1 := PySem.W.looks_mroIn (M := M) X hb
  simp only [checkBuiltinCall, hk, hsplit]
  refine wpAny_bind ?_
  unfold isInstance
  refine wpAny_bind (L0.at (L1.at ?_))
  repeat (first | assumption | wp_step)
theorem exc_class {name : Str} {gv a : Value} {Q : Option Value → Shared → Prop} (X : K.In s.heap) (I : PySem.W.InstAt s.heap x ox C none) (hga : PySem.W.findIn K (.ref C) "__getattribute__" = some (some (.builtin "BaseException.__getattribute__")))
    (hgr : PySem.W.findIn K (.ref C) "__getattr__" = some none) (hb : PySem.W.mroIn K C (.type "BaseException") = some true) (hf : PySem.W.findObj K C none name = some (.bind gv a))
    (h : wpAny (model prog w) A.in1 (call gv [a, .ref x, .ref C]) (fun v s' => wpAny (model prog w) A (handedOut v) (fun v s'' => Q (some v) s'') (fun _ _ => False) s') (fun _ _ => False) { s with toks := s.toks + 1 }) : wpAny (model prog w) A (getAttr? (.ref x) name) Q E s := by
  obtain ⟨hh, g, d, t, os⟩ := s
  have L0 := I.type (M := model prog w)
  have L1 := PySem.W.looks_findIn (M := model prog w) X hga
  have L2 := PySem.W.looks_findIn (M := model prog w) X hgr
  have L3 := PySem.W.looks_find (M := model prog w) X I hf
  have f0 := F.attr_ValueError.ga
  unfold getAttr? getAttrBy? getAttrBy
  refine wpAny_bind (wpAny_mkText (wpAny_bind (wpAny_attempt (wpAny_holding (wpAny_bind (L0.at (wpAny_bind (L1.at ?_))))))))
  show wpAny _ _ (getAttrByItsOwn (.ref x) (.str name t) (.ref C) (.builtin "BaseException.__getattribute__") false false) _ _ _
  unfold getAttrByItsOwn hookBefore callGetattribute boundAndCalled
  refine wpAny_bind ?_
  show wpAny _ _ (typeLookup (.ref C) "__getattr__") _ _ _
  refine L2.at (wpAny_bind (wpAny_attempt (wpAny_holding ?_)))
  show wpAny _ _ (bindSpecial (.builtin "BaseException.__getattribute__") (.ref x) >>= _) _ _ _
  refine wpAny_bind (wpAny_of_eq (f0.bind _) ?_)
  refine wpAny_mono (Q := fun v s' => wpAny (model prog w) A (handedOut v) (fun v s'' => Q (some v) s'') (fun _ _ => False) s') (E := fun _ _ => False) (wpAny_call (codeAny_call_builtin f0.plain F.entry_bexc_ga (exc_check (s := ⟨hh, g, d, t + 1, os⟩) X I hb ?_))) (fun v s' hv => ?_) fun _ _ z => z.elim
  · unfold Builtin.«object.__getattribute__»
    refine wpAny_bind (wpAny_pure (wpAny_bind (wpAny_pure (wpAny_bind (L0.at (wpAny_bind (L3.at ?_)))))))
    show wpAny _ _ (holding [a] (call gv [a, .ref x, .ref C]) >>= ret) _ _ _
    exact wpAny_bind (wpAny_holding (wpAny_mono h (fun v s' z => wpAny_pure z) fun _ _ z => z.elim))
  · exact wpAny_mono hv (fun v s'' hv => wpAny_pure hv) (fun _ _ z => z.elim)
end
theorem kitx_exc {G : Value → Prop} {K : PySem.W.Frag} {x C : Addr} (k : ExcK K C) : PySem.W.KitX K (.ref x) (.ref C) (ExcIn G x C) where
  ty := fun _ _ _ e => by
    obtain ⟨ox, I⟩ := e.inst
    exact I.type
  it := fun _ _ X _ => by
    obtain ⟨cd, hc⟩ := Option.isSome_iff_exists.mp k.cl
    unfold PySem.W.clsIn at hc
    split at hc
    · rename_i ho
      intro A Q E s kp q
      unfold isType loadHead
      exact wpAny_bind (wpAny_loadPart (kp _ _ (X _ _ ho)) (wpAny_pure q))
    · cases hc
  ne := fun h tp dd its n sl X ht => by
    obtain ⟨cd, hc⟩ := Option.isSome_iff_exists.mp k.cl
    refine Bool.eq_false_iff.mpr fun q => ?_
    obtain rfl : C = tp := Value.ref.inj (beq_iff_eq.mp q)
    unfold PySem.W.clsIn at hc
    split at hc
    · rename_i ho
      have := (X _ _ ho).symm.trans ht
      cases this
    · cases hc
  ca := fun {prog w A E Q s} X e q => by
    obtain ⟨ox, I⟩ := e.inst
    have I2 : PySem.W.InstAt ({ s with toks := s.toks + 1 } : Shared).heap x ox C none := I
    have X2 : K.In ({ s with toks := s.toks + 1 } : Shared).heap := X
    exact exc_class X I k.ga k.gr k.bs (findObj_none k.cl k.ca k.gt k.tk) (wpAny_call (PySem.W.class_get (s := { s with toks := s.toks + 1 }) X2 I2 k.ob (PySem.W.handed_on rfl q)))
section
variable {X : Cx}
theorem exc_in {G : Value → Prop} {pins : List (Addr × Obj)} {σ : L2.St} {H : Hp} {s : Shared} {x C : Addr} (I : Inv X pins σ H s) (h : H x = some (ExcOG G x C)) : ExcIn G x C s.heap := (show ObjOk X.prog X.w H s.heap x (ExcOG G x C) from I.hok x _ h).1
theorem call_isiX {G : Value → Prop} (K : PySem.W.Frag) (hK : X.K = K) : CallR X (.builtin "isinstance") (fun xs H Q => ∃ x C D b, xs = [.ref x, .ref D] ∧ H x = some (ExcOG G x C) ∧ ExcK K C ∧ PySem.W.kitOne K (.ref C) (.ref D) = some b ∧ Q (.bl b) H) := by
  subst hK
  intro pins s σ H xs us Q I r h
  obtain ⟨x, C, D, b, rfl, hx, k, e, q⟩ := h
  obtain ⟨u, c, rfl, rx, rc⟩ := vals2 r
  cases (show c = Value.ref D from rc)
  cases (show u = Value.ref x from rx)
  exact PySem.W.kia_one (kitx_exc k) I.kIn (exc_in I hx) e (fun z => nomatch z) fun tk => ⟨.bl b, H, I.tok tk, rfl, q⟩
end
end L2

set_option genSizeOf false
set_option genInjectivity false
namespace L2
open PySem PySem.Spec PyProof.Rows
noncomputable abbrev bmV : List Value := [.type "ValueError", .type "Exception", .type "BaseException", .type "object"]
structure RXG (G : Value → Prop) (X : Cx) (E : XK) : Prop where
  st : X.stack = X.env :: X.outer
  fr : X.env.frame = some X.env.locals
  ex : X.ex = []
  xe : X.xe = fun e s' => wpAny (model X.prog X.w) X.A (leaving X.env e) (fun _ s'' => CXG G X.prog X.w X.outer X.H₀ X.s₀ E e s'') (fun e' s'' => CXG G X.prog X.w X.outer X.H₀ X.s₀ E e' s'') s'
theorem exc_obj {K : PySem.W.Frag} {h : Heap} {C : Addr} (X : K.In h) (q : PySem.W.excIn K C bmV "ValueError.__new__" = true) :
    ∃ bm N nm qn bs hdct sn sub ab col dd k0 k1 k2 k3 k5 mN, h.get? C = some (excClassObj nm qn C N bs bm hdct sn sub ab col dd k0 k1 k2 k3 k5 "ValueError.__new__") ∧ h.Ns N mN ∧ mN "__init__" = none ∧ OwnTail h bmV bm := by
  unfold PySem.W.excIn at q
  split at q
  · rename_i dd cd sl ho
    split at q
    · rename_i C' bm k0 k1 k2 k3 n k5 hm hs
      simp only [Bool.and_eq_true, beq_iff_eq, Bool.not_eq_true'] at q
      obtain ⟨⟨⟨⟨⟨c1, c2⟩, c3⟩, c4⟩, c5⟩, c6⟩ := q
      subst c1 c2
      obtain ⟨nm, bs, mro, ns, qn, hd, sn, sub, ab, col, del⟩ := cd
      dsimp only at hm c3 c5 c6
      subst hm c3
      obtain ⟨l⟩ := sl
      cases (show l = _ from hs)
      exact ⟨bm, ns, nm, qn, bs, hd, sn, sub, ab, col, dd, k0, k1, k2, k3, k5, _, X _ _ ho, .of_isNs (PySem.W.isNs_of_in X c5), PySem.W.nsMap_none_of_in X c5 c6, PySem.W.tail_of_in X c4⟩
    · cases q
  · cases q
noncomputable def tRaise (C : Addr) (E : XK) (t : TA) : TS := fun _ σ H => t σ H fun vs H1 => vs.length ≤ sizeLine ∧ ∀ x, H1 x = none → E (.ref C) (some x) H1
section
variable {X : Cx} {G : Value → Prop} {E : XK}
theorem ps_raiseE {x : Str} {C : Addr} {e : Expr} {es : List Expr} {t : TA} {np cpos pos : Pos} (R : RXG G X E) (hm : X.mg x = some (.ref C)) (k : ExcK X.K C) (hg : Gl X x) (hh : X.A.handled = none) (ha : PA X (e :: es) t)
    (hdb : (x == ("__debug__" : Str)) = false := by decide +kernel) (he : starEach (e :: es) X.env = (false, eval e X.env) :: starEach es X.env := by rfl) (hpl : (backTo cpos (starEach es X.env)).any (·.1) = false := by rfl) (hG : G .none := by first | rfl | trivial) :
    PS X (.Raise (some (.Call (.Name x np) (e :: es) [] cpos)) none pos) (tRaise C E t) := by
  intro pins s σ H D I h
  obtain ⟨bm, N, nm, qn, bs, hdct, sn, sub, ab, col, dd, k0, k1, k2, k3, k5, mN, hC, hN, hni, T⟩ := exc_obj I.mod.kin k.is
  refine wpAny_Raise_call_subT (C := C) (nm := nm) (q := qn) (N := N) (bs := bs) (bm := bm) (hdct := hdct) (sn := sn) (sub := sub) (ab := ab) (col := col) (dd := dd) (k0 := k0) (k1 := k1) (k2 := k2) (k3 := k3) (k5 := k5) PySem.F.excBase_ValueError (mN := mN)
    (T.hasType (X := "BaseException") (b := true) (by decide)) hh (by rw [he]; show (false || (backTo cpos (starEach es X.env)).any (·.1)) = false; rw [hpl]; rfl) hni (ld_glob I hg hm ⟨rfl, ?_⟩ hdb)
  have z := ha cpos pins s σ H _ I h
  rw [he] at z ⊢
  refine Calls.evalArgs_plain (thn z fun us s1 ⟨vs, H1, I1, r, hl, q⟩ => ⟨rfl, by rw [← r.length]; exact hl, I1.bk _ _ hC, hN.keeps I1.bk, T.keeps I1.bk, fun h' x' m => ?_⟩)
  refine madeE hG R.st R.fr R.ex R.xe I1 m (q _ ?_)
  cases y : H1 x' with
  | none => rfl
  | some u =>
    obtain ⟨o, w⟩ := (I1.hok x' u y).here
    rw [m.new] at w
    cases w
end
noncomputable def DfnG (G : Value → Prop) (P : Program) (w : World) (K : PySem.W.Frag) (mg : Str → Option Value) (base : Heap) (x : Str) (k : Nat) (ps : List Str) (sp : Sp) : Prop :=
  ∃ (f : Addr) (fd : FuncData), mg x = some (.ref f) ∧ PySem.W.keepIn K (.ref f) = true ∧ Binds K fd ps [] ∧ FnOk P w K mg base (CXG G P w) k f fd ps sp
noncomputable abbrev DfnE (P : Program) (w : World) (K : PySem.W.Frag) (mg : Str → Option Value) (base : Heap) (x : Str) (k : Nat) (ps : List Str) (sp : Sp) : Prop := DfnG Gn P w K mg base x k ps sp
section
variable {X : Cx} {G : Value → Prop} {E : XK}
theorem pe_callE {k : Nat} {x : Str} {ps : List Str} {sp : Sp} {p pos : Pos} {e : Expr} {es : List Expr} {t : TA} (D : DfnG G X.prog X.w X.K X.mg X.base x k ps sp) (R : RXG G X E) (hr : Room k X.A) (hg : Gl X x) (ha : PA X (e :: es) t)
    (hdb : (x == ("__debug__" : Str)) = false := by decide +kernel) (he : starEach (e :: es) X.env = (false, eval e X.env) :: starEach es X.env := by rfl) (hpl : (backTo pos (starEach es X.env)).any (·.1) = false := by rfl) :
    PE X (.Call (.Name x p) (e :: es) [] pos) (tCall sp [] E t) := by
  obtain ⟨f, fd, hm, hk, hb, F⟩ := D
  exact pe_call F hr hg hm hk hb .nil (passE R.st R.fr R.ex R.xe) ha hdb he hpl
end
section
variable {P : Program} {w : World} {K : PySem.W.Frag} {mg : Str → Option Value} {base : Heap}
theorem Fun.okE {G : Value → Prop} {x qual : Str} {st : Stmt} {f : Addr} {fd : FuncData} {N ps : List Str} {k : Nat} {sp : Sp} (F : Fun K x qual st f fd) (S : FnScope N ps (defScope st)) (len : ∀ vs H Q E, sp vs H Q E → vs.length = ps.length)
    (hbody : ∀ (cdv : Value) (A : Around) (outer : List Env) (s : Shared) (H : Hp) (vs : List V) (Q : VK) (E : XK), Room k (A.deeper (envOfC qual (defScope st) s.heap.objs.size f cdv)) → RXG G (cxOf (CXG G P w) P w K mg base N qual (defScope st) f cdv A outer s H E) E → sp vs H Q E →
      ∃ t, PSs (cxOf (CXG G P w) P w K mg base N qual (defScope st) f cdv A outer s H E) (defBody st) t ∧ t { nx := fun _ H' => Q .non H', rt := Q } (start N vs) H) : FnOk P w K mg base (CXG G P w) (k + 1) f fd ps sp := by
  obtain ⟨oc, od, kV, doc, pm, an, cdv, ct, osl, rfl, lk, hcd⟩ := F.ex
  exact fn_of lk hcd S len fun A outer s H vs Q E hr hsp => hbody cdv A outer s H vs Q E hr ⟨rfl, rfl, rfl, rfl⟩ hsp
end
end L2

set_option genSizeOf false
set_option genInjectivity false
namespace L2
open PySem PySem.Spec PyProof.Rows
noncomputable def Xh (X : Cx) (x : Addr) : Cx := { X with A := X.A.mark (some (.ref x)), calm := false, xe := fun _ _ => False }
section
variable {X : Cx} {G : Value → Prop} {pins : List (Addr × Obj)} {σ : L2.St} {H H' : Hp} {s : Shared} {h1 h2 B : Heap} {x C : Addr}
theorem Inv.toH (I : Inv X pins σ H s) : Inv (Xh X x) pins σ H s :=
  ⟨⟨I.ok.mod, I.ok.kind, I.ok.glob, I.ok.blt, I.ok.above, I.ok.inj, I.ok.has, I.ok.cab, (fun z => nomatch z), I.ok.frames, I.ok.stk, I.ok.exf, I.ok.bs, I.ok.bsz, I.ok.noex, I.ok.exfs, I.ok.funs, I.ok.frf⟩, I.os, I.bare, I.base, I.loc, I.cell, I.free, I.freeC, I.pin, I.hok, I.len⟩
theorem catch_inv {s2 : Shared} {fl : Value} (I : Inv X pins σ H s) (un : Un (frs X.stack) [] H H' s.heap h1) (hok : HOk X.prog X.w H' h1) (hx : s.heap.get? x = none) (hx' : H' x = none)
    (kb : ∀ b o, h1.get? b = some o → ((∃ u, s.heap.get? b = some u) ∨ ∃ u, H' b = some u) → b ∉ frs X.stack → B.get? b = some o)
    (F : Fly G B X.stack x (.ref C) fl h2) (U : h1.UpToSlots h2) (hs : s2.heap = h2) (ho : s2.os = s.os) (hg : AllBare s2.gens) : Inv X pins σ (upd H' x (ExcOG G x C)) s2 := by
  subst hs
  have stay : ∀ b o, h1.get? b = some o → ((∃ u, s.heap.get? b = some u) ∨ ∃ u, H' b = some u) → b ∉ frs X.stack → s2.heap.get? b = some o := fun b o z y n => F.st b o (kb b o z y n)
  have nf : ∀ b, b ∈ frs X.stack → ∃ o, s.heap.get? b = some o ∧ (∀ vs, o.data ≠ .fields vs) ∧ H b = none ∧ H' b = none := fun b m => by
    obtain ⟨_, o, z, n⟩ := I.stack.mem m
    exact ⟨o, z, n, I.stkFree b m, un.free b o z (I.stkFree b m) (by simp)⟩
  have nx : ∀ b o, s.heap.get? b = some o → b ≠ x := fun b o z y => by rw [y, hx] at z; cases z
  have ex := F.at
  refine I.call' (ch := []) ho ⟨fun b o z n m _ => ?_, fun b o z n m _ => ?_, fun b o z n _ => ?_, fun b o z _ => ?_, fun b xs z => ?_, fun b o u z => ?_, fun b ps z => ?_⟩ (fun a o z => ?_) hg (fun b m => absurd m (by simp))
  · exact stay b o (un.keep b o z n m (by simp)) (.inl ⟨_, z⟩) m
  · obtain ⟨sl, z1⟩ := un.slot b o z n m (by simp)
    obtain ⟨o2, z2, nf, _⟩ := nf b m
    rw [z] at z2
    cases z2
    obtain ⟨sl2, z3⟩ := U b _ z1 nf
    exact ⟨sl2, z3⟩
  · rw [upd_ne (nx b o z)]
    exact un.free b o z n (by simp)
  · by_cases m : b ∈ frs X.stack
    · obtain ⟨o2, z2, nf, hn, _⟩ := nf b m
      obtain ⟨sl, z1⟩ := un.slot b o2 z2 hn m (by simp)
      obtain ⟨sl2, z3⟩ := U b _ z1 nf
      exact ⟨_, z3⟩
    · obtain ⟨o2, z2⟩ := un.there b o z (by simp)
      exact ⟨o2, stay b o2 z2 (.inl ⟨_, z⟩) m⟩
  · have z1 := un.tups b xs z
    rw [upd_ne (ne_of_none z1 hx')]
    exact z1
  · have z1 := un.frzs b o u z
    rw [upd_ne (ne_of_none z1 hx')]
    exact z1
  · obtain ⟨more, z1⟩ := un.tbls b ps z
    exact ⟨more, by rw [upd_ne (ne_of_none z1 hx')]; exact z1⟩
  · by_cases e : a = x
    · subst e
      rw [upd_same] at z
      cases z
      obtain ⟨oe, vs, e1, e2⟩ := ex
      refine ⟨⟨oe, vs, e1, e2⟩, ⟨oe, e1⟩, fun g1 g2 ⟨o, ws, w1, w2⟩ k => ⟨o, ws, k o w1, w2⟩⟩
    · rw [upd_ne e] at z
      refine (hok a o z).stay (fun b u m y => ?_) (fun b y => by rw [upd_ne (ne_of_none y hx')]; exact y) fun b xs y => by rw [upd_ne (ne_of_none y hx')]; exact y
      have tr : ∃ u, H' b = some u := by
        rcases m with rfl | m
        · exact ⟨_, z⟩
        · exact ⟨_, m⟩
      exact stay b u y (.inr tr) fun m => by
        obtain ⟨_, _, _, _, hn⟩ := nf b m
        obtain ⟨u, tr⟩ := tr
        rw [hn] at tr
        cases tr
theorem gone_ok {M : Model} {A : Around} {E : Value → Shared → Prop} {n : Str} {pos : Pos} {Q : Unit → Shared → Prop} (I : Inv X pins σ H s) (hl : X.env.scope.names.lookup n = some .local)
    (q : ∀ s', Inv X pins (List.replicate X.N.length none) H s' → Q () s') : wpAny M A (do bindName X.env n .none; unbindBehindTheSuite X.env n pos) Q E s := by
  obtain ⟨m, hn, _⟩ := id I.loc
  obtain ⟨oL, _, _, hoL, _⟩ := id hn
  refine wpAny_nameGoes hl hn (by rw [I.ok.kind]; rfl) fun h' m' hn' hs => q _ ?_
  have ab : ∀ b o, X.s₀.heap.get? b = some o → b ≠ X.env.locals := fun b o e => Nat.ne_of_lt (Nat.lt_of_lt_of_le (Heap.lt_size e) I.ok.above)
  refine ⟨I.ok, I.os, I.bare, ⟨fun b o e n hb hx => ?_, fun b o e n hb hx => ?_, I.base.free, fun b o e hx => ?_, I.base.tups, I.base.frzs, I.base.tbls⟩, ⟨m', hn', fun j y v e1 e2 e3 => ?_⟩, fun y c e => ?_, I.free, I.freeC, fun p hp => ?_, fun a o e => ?_, List.length_replicate⟩
  · exact (hs.2 b (ab b o e)).trans (I.base.keep b o e n hb hx)
  · obtain ⟨sl, e1⟩ := I.base.slot b o e n hb hx
    exact ⟨sl, (hs.2 b (ab b o e)).trans e1⟩
  · obtain ⟨o', e1⟩ := I.base.there b o e hx
    exact ⟨o', (hs.2 b (ab b o e)).trans e1⟩
  · rw [List.getElem?_replicate] at e2
    split at e2 <;> cases e2
  · obtain ⟨v, o, ho, hd⟩ := I.cell y c e
    exact ⟨v, o, (hs.2 c (I.cne y c e)).trans ho, hd⟩
  · obtain ⟨p1, p2, p3, p4⟩ := I.pin p hp
    exact ⟨(hs.2 _ p3).trans p1, p2, p3, p4⟩
  · refine (I.hok a o e).stay (fun c u hc y => (hs.2 c ?_).trans y) (fun _ y => y) fun _ _ y => y
    rintro rfl
    rcases hc with rfl | hc
    · rw [I.free] at e; cases e
    · rw [I.free] at hc; cases hc
end
end L2

set_option genSizeOf false
set_option genInjectivity false
namespace L2
open PySem PySem.Spec PyProof.Rows
theorem entry_unchain : entryFor table "proto.unchain" = some Builtin.«proto.unchain» := entryFor_of_fast (by kernel_rfl)
section
variable {prog : Program} {w : World} {A : Around} {E : Value → Shared → Prop} {s : Shared}
theorem raiseNew_in {α : Type} {e x : Addr} {Q : α → Shared → Prop} {ox oe : Obj} {vs ws : Array Value} (hh : A.handled = some (.ref x)) (ne : x ≠ e) (hx : s.heap.get? x = some ox) (dx : ox.data = .fields vs) (h2 : vs[2]? = some .none)
    (he : s.heap.get? e = some oe) (de : oe.data = .fields ws) (sz : 2 < ws.size) (h : E (.ref e) { s with heap := s.heap.update e (Obj.mapFields (·.setIfInBounds 2 (.ref x))) }) : wpAny (model prog w) A (raiseNew (.ref e) : Sem α) Q E s := by
  have hne : (Value.ref x != Value.ref e) = true := by
    rw [bne_iff_ne]
    intro z
    exact ne (Value.ref.inj z)
  unfold raiseNew
  refine wpAny_bind (wpAny_handled ?_)
  rw [hh]
  dsimp only
  rw [if_pos hne]
  refine wpAny_bind (wpAny_holding (wpAny_runValue (codeAny_builtin entry_unchain ?_)))
  unfold Builtin.«proto.unchain»
  dsimp only
  refine wpAny_bind (wpAny_field hx dx h2 ?_)
  rw [if_pos (by decide)]
  refine wpAny_bind (wpAny_pure ?_)
  refine wpAny_pure ?_
  show wpAny _ A (setField (.ref e) 2 (.ref x) >>= fun _ => throw (Value.ref e)) Q E s
  exact wpAny_bind (wpAny_setField he de sz (wpAny_throw h))
end

section
variable {X : Cx} {tg : Expr} {x : Addr}
end
noncomputable def FnAt (P : Program) (w : World) (K : PySem.W.Frag) (mg : Str → Option Value) (base : Heap) (CX : CXT) (k : Nat) (f : Addr) (sp : Sp) : Prop :=
  ∃ (fd : FuncData) (ps : List Str), PySem.W.keepIn K (.ref f) = true ∧ Binds K fd ps [] ∧ FnOk P w K mg base CX k f fd ps sp
section
variable {X : Cx}
end
theorem FnOk.or {P : Program} {w : World} {K : PySem.W.Frag} {mg : Str → Option Value} {base : Heap} {CX : CXT} {k : Nat} {f : Addr} {fd : FuncData} {ps : List Str} {sp sp' : Sp} (F : FnOk P w K mg base CX k f fd ps sp) (G : FnOk P w K mg base CX k f fd ps sp') :
    FnOk P w K mg base CX k f fd ps (fun vs H Q E => sp vs H Q E ∨ sp' vs H Q E) :=
  ⟨fun vs H Q E h => h.elim (F.len vs H Q E) (G.len vs H Q E), fun A outer s H args us vs Q E hr he hb r h => h.elim (F.run A outer s H args us vs Q E hr he hb r) (G.run A outer s H args us vs Q E hr he hb r)⟩
theorem DfnG.at {G : Value → Prop} {P : Program} {w : World} {K : PySem.W.Frag} {mg : Str → Option Value} {base : Heap} {k : Nat} {x : Str} {ps : List Str} {sp : Sp} (D : DfnG G P w K mg base x k ps sp) : ∃ f, mg x = some (.ref f) ∧ FnAt P w K mg base (CXG G P w) k f sp := by
  obtain ⟨f, fd, a, b, c, F⟩ := D
  exact ⟨f, a, fd, ps, b, c, F⟩
theorem Dfn.at {P : Program} {w : World} {K : PySem.W.Frag} {mg : Str → Option Value} {base : Heap} {k : Nat} {x : Str} {ps : List Str} {sp : Sp} (D : Dfn P w K mg base x k ps sp) : ∃ f, mg x = some (.ref f) ∧ FnAt P w K mg base CX0 k f sp := by
  obtain ⟨f, fd, a, b, c, F⟩ := D
  exact ⟨f, a, fd, ps, b, c, F⟩
end L2

set_option genSizeOf false
set_option genInjectivity false
namespace L2
open PySem PySem.Spec PyProof.Rows
inductive Tm where
  | non | bl (b : Bool) | int (i : Int) | str | dct | tup (l : List Tm) | lst (l : List Tm)
mutual
inductive Is (H : Hp) : Tm → V → Prop
  | non : Is H .non .non
  | bl (b : Bool) : Is H (.bl b) (.bl b)
  | int (i : Int) : Is H (.int i) (.int i)
  | str (x : Str) : Is H .str (.str x)
  | dct {a : Addr} (e : H a = some (.dK [])) : Is H .dct (.ref a)
  | tup {a : Addr} {l : List Tm} {xs : List V} (e : H a = some (.tup xs)) (p : IsL H l xs) : Is H (.tup l) (.ref a)
  | lst {a : Addr} {l : List Tm} {xs : List V} (e : H a = some (.lst xs)) (p : IsL H l xs) : Is H (.lst l) (.ref a)
inductive IsL (H : Hp) : List Tm → List V → Prop
  | nil : IsL H [] []
  | cons {t : Tm} {l : List Tm} {v : V} {xs : List V} (h : Is H t v) (r : IsL H l xs) : IsL H (t :: l) (v :: xs)
end
theorem Is.same {H H' : Hp} {t : Tm} {v : V} (s : Same H H') (h : Is H t v) : Is H' t v :=
  Is.rec (motive_1 := fun t v _ => Is H' t v) (motive_2 := fun l xs _ => IsL H' l xs) Is.non Is.bl Is.int Is.str (fun e => Is.dct (s _ _ e)) (fun e _ p => Is.tup (s _ _ e) p) (fun e _ p => Is.lst (s _ _ e) p) IsL.nil (fun _ _ a b => IsL.cons a b) h
theorem IsL.same {H H' : Hp} {l : List Tm} {xs : List V} (s : Same H H') (h : IsL H l xs) : IsL H' l xs :=
  IsL.rec (motive_1 := fun t v _ => Is H' t v) (motive_2 := fun l xs _ => IsL H' l xs) Is.non Is.bl Is.int Is.str (fun e => Is.dct (s _ _ e)) (fun e _ p => Is.tup (s _ _ e) p) (fun e _ p => Is.lst (s _ _ e) p) IsL.nil (fun _ _ a b => IsL.cons a b) h
noncomputable def tyT : Tm → String
  | .non => "NoneType" | .bl _ => "bool" | .int _ => "int" | .str => "str" | .dct => "dict" | .tup _ => "tuple" | .lst _ => "list"
theorem Is.ty {K : PySem.W.Frag} {H : Hp} {t : Tm} {v : V} (h : Is H t v) : TyOf K H v (.type (tyT t)) := by
  cases h with
  | non => exact TyOf.non
  | bl b => exact TyOf.bl b
  | int i => exact TyOf.int i
  | str x => exact TyOf.str x
  | dct e => exact TyOf.dK e
  | tup e p => exact TyOf.tup e
  | lst e p => exact TyOf.lst e
theorem IsL.length {H : Hp} : ∀ {l : List Tm} {xs : List V}, IsL H l xs → l.length = xs.length
  | [], _, h => by cases h; rfl
  | _ :: l, _, h => by
    cases h with
    | cons a b => rw [List.length_cons, List.length_cons, IsL.length b]
theorem IsL.get {H : Hp} : ∀ {l : List Tm} {xs : List V} {i : Nat} {v : V}, IsL H l xs → xs[i]? = some v → ∃ t, l[i]? = some t ∧ Is H t v
  | [], _, _, _, h, e => by cases h; simp at e
  | t :: l, _, 0, v, h, e => by
    cases h with
    | cons a b => simp at e; subst e; exact ⟨t, rfl, a⟩
  | t :: l, _, i + 1, v, h, e => by
    cases h with
    | cons a b =>
      obtain ⟨u, h1, h2⟩ := IsL.get (i := i) b (by simpa using e)
      exact ⟨u, by simpa using h1, h2⟩
theorem IsL.at {H : Hp} : ∀ {l : List Tm} {xs : List V} {i : Nat} {t : Tm}, IsL H l xs → l[i]? = some t → ∃ v, xs[i]? = some v ∧ Is H t v
  | [], _, _, _, h, e => by simp at e
  | t :: l, _, 0, u, h, e => by
    cases h with
    | cons a b => simp at e; subst e; exact ⟨_, rfl, a⟩
  | t :: l, _, i + 1, u, h, e => by
    cases h with
    | cons a b =>
      obtain ⟨v, h1, h2⟩ := IsL.at (i := i) b (by simpa using e)
      exact ⟨v, by simpa using h1, h2⟩
theorem IsL.append {H : Hp} : ∀ {l m : List Tm} {xs ys : List V}, IsL H l xs → IsL H m ys → IsL H (l ++ m) (xs ++ ys)
  | [], _, _, _, h, k => by cases h; exact k
  | _ :: l, _, _, _, h, k => by
    cases h with
    | cons a b => exact .cons a (IsL.append b k)
section
variable {X : Cx} {c : Int}
theorem ns_bin {a b : Expr} {o : Operator} {p : Pos} : NoStar (.BinOp a o b p) := fun _ _ => rfl
end
end L2

set_option genSizeOf false
set_option genInjectivity false
namespace L2
open PySem PySem.Spec PyProof.Rows
theorem vals_strs : ∀ {l : List (Str × Tok)} {ws : List Str}, l.map (·.1) = ws → Vals (ws.map V.str) (strValues l)
  | [], _, e => by subst e; exact .nil
  | p :: l, _, e => by subst e; exact .cons ⟨p.2, rfl⟩ (vals_strs rfl)
theorem strs_vals : ∀ {ws : List Str} {us : List Value}, Vals (ws.map V.str) us → ∃ l : List (Str × Tok), us = strValues l ∧ l.map (·.1) = ws
  | [], _, r => by cases r; exact ⟨[], rfl, rfl⟩
  | w :: ws, _, r => by
    cases r with
    | cons a b =>
      obtain ⟨t, rfl⟩ := a
      obtain ⟨l, rfl, e⟩ := strs_vals b
      exact ⟨(w, t) :: l, rfl, by rw [List.map_cons, e]⟩
section
variable {prog : Program} {w : World} {A : Around} {E : Value → Shared → Prop} {s : Shared} {x y : Str} {t u : Tok} {Q : Value → Shared → Prop}
open Builtin Builtin.Str
theorem split_w (hy : (y.length == 0) = false) (hq : ∀ (l : List (Str × Tok)) (k : Nat), l.map (·.1) = Txt.split x y → Q (.ref s.heap.objs.size) { s with heap := s.heap.push { cls := .type "list", data := .seq (strValues l).toArray }, toks := k })
    (hsz : x.length ≤ sizeLine) (hsz2 : (partsBetween x (occurrences x y 0 x.length (x.length + 1)) y.length).length ≤ sizeLine) : wpAny (model prog w) A (call (.builtin "str.split") [.str x t, .str y u]) Q E s := by
  cases h1 : (decide (x.length < y.length) || decide (strKind x < strKind y))
  · cases hf : (occurrences x y 0 x.length (x.length + 1)).isEmpty
    · refine call_meets F.slot_str_split (typeIs_str _ _ _) F.entry_str_split (F.args_str_split_2 _ _) (meets_str_split_sep x y t u h1 hy hf hsz hsz2) ?_
      show wants Q E _ { s with toks := _, heap := s.heap.push { cls := .type "list", data := .seq (strsFrom s.toks (partsBetween x (occurrences x y 0 x.length (x.length + 1)) y.length)).toArray } }
      rw [strsFrom_eq]
      exact hq (numbered s.toks _) _ ((numbered_texts _ _).trans ((if_neg (ne_true_of_eq_false h1)).trans (if_neg (ne_true_of_eq_false hf))).symm)
    · exact call_meets F.slot_str_split (typeIs_str _ _ _) F.entry_str_split (F.args_str_split_2 _ _) (meets_str_split_not_found x y t u h1 hy hf)
        (hq [(x, t)] s.toks ((if_neg (ne_true_of_eq_false h1)).trans (if_pos hf)).symm)
  · exact call_meets F.slot_str_split (typeIs_str _ _ _) F.entry_str_split (F.args_str_split_2 _ _) (meets_str_split_cannot_occur x y t u h1)
      (hq [(x, t)] s.toks (if_pos h1).symm)
end
section
variable {X : Cx}
noncomputable def rSplit : V → List V → Hp → VK → Prop := fun x vs H Q => ∃ z y, x = .str z ∧ vs = [.str y] ∧ (y.length == 0) = false ∧ z.length ≤ sizeLine ∧ (Builtin.Str.occurrences z y 0 z.length (z.length + 1)).length < sizeLine ∧ (Txt.split z y).length ≤ sizeLine ∧ ∀ D, H D = none → Q (.ref D) (upd H D (.lst ((Txt.split z y).map V.str)))
theorem mt_split : MtR X "str.split" rSplit := by
  intro pins s σ H x xs v us Q I rx rs h
  obtain ⟨z, y, rfl, rfl, hy, hz, ho, hl, q⟩ := h
  obtain ⟨t, rfl⟩ := rx
  obtain ⟨u, rfl, t', rfl⟩ := Vals.one rs
  refine split_w hy (fun l k e => ?_) hz (by rw [length_partsBetween]; exact ho)
  refine ⟨.ref s.heap.objs.size, upd H s.heap.objs.size (.lst ((Txt.split z y).map V.str)), I.laid (fun b ob q => Heap.get?_push_of_some _ q) (Nat.le_refl _) ⟨by rw [List.length_map]; exact hl, strValues l, 0, vals_strs e, Heap.get?_push_size _ rfl⟩, rfl, q _ (I.hok.fresh (Nat.le_refl _))⟩
noncomputable def rJoin (K : PySem.W.Frag) : V → List V → Hp → VK → Prop := fun x vs H Q => ∃ z p ws, x = .str z ∧ vs = [.ref p] ∧ SqL K H p (ws.map V.str) ∧ JoinOk z ws = true ∧ Q (.str (Txt.join z ws)) H
theorem mt_join : MtR X "str.join" (rJoin X.K) := by
  intro pins s σ H x xs v us Q I rx rs h
  obtain ⟨z, p, ws, rfl, rfl, hp, hj, q⟩ := h
  obtain ⟨t, rfl⟩ := rx
  obtain ⟨u, rfl, ru⟩ := Vals.one rs
  cases (show u = Value.ref p from ru)
  obtain ⟨its, rv, pl, _⟩ := I.list hp
  obtain ⟨l, rfl, e⟩ := strs_vals rv
  exact SC.join pl.isList e hj fun t' k => ⟨.str (Txt.join z ws), H, I.tok k, ⟨t', rfl⟩, q⟩
noncomputable def rStarts : V → List V → Hp → VK → Prop := fun x vs H Q => ∃ z y, x = .str z ∧ vs = [.str y] ∧ Q (.bl (Txt.startswith z y)) H
theorem mt_starts : MtR X "str.startswith" rStarts := by
  intro pins s σ H x xs v us Q I rx rs h
  obtain ⟨z, y, rfl, rfl, q⟩ := h
  obtain ⟨t, rfl⟩ := rx
  obtain ⟨u, rfl, t', rfl⟩ := Vals.one rs
  exact SC.startswith ⟨.bl _, H, I, rfl, q⟩
theorem call_int_text : CallR X (.type "int") (fun xs H Q => ∃ z n, xs = [.str z] ∧ z.length ≤ 640 ∧ PySem.intText? z = some n ∧ Q (.int n) H) := by
  intro pins s σ H xs us Q I r h
  obtain ⟨z, n, rfl, hl, hn, q⟩ := h
  obtain ⟨u, rfl, t, rfl⟩ := Vals.one r
  exact PySem.W.KIN.call_text hn hl ⟨.int n, H, I.tok _, ⟨_, rfl⟩, q⟩
theorem op_mul_str : OpR X (binaryOp .Mult) (fun x y H Q => ∃ z n, x = .str z ∧ y = .int n ∧ MulOk z n ∧ Q (.str (Txt.mul z n)) H) := by
  intro pins s σ H x y v u Q I rx ry h
  obtain ⟨z, n, rfl, rfl, hm, q⟩ := h
  obtain ⟨t, rfl⟩ := rx
  obtain ⟨t', rfl⟩ := ry
  exact SB.mul hm fun t' k => ⟨.str _, H, I.tok k, ⟨t', rfl⟩, q⟩
noncomputable def rSlS : V → Option Int → Option Int → Hp → VK → Prop := fun x lo hi H Q => ∃ z, x = .str z ∧ z.length ≤ sizeLine ∧ Q (.str (Txt.slice z lo hi)) H
theorem part_of {v : Value} {o : Option Int} (p : IsPart v o) : ∃ q : Option (Int × Tok), v = partValue q ∧ q.map (·.1) = o := by
  cases p with
  | none => exact ⟨none, rfl, rfl⟩
  | int i t => exact ⟨some (i, t), rfl, rfl⟩
theorem sl_str : SlR X rSlS := by
  intro pins s σ H x v vl vu lo hi sl Q I rx hs pl pu h
  obtain ⟨z, rfl, hz, q⟩ := h
  obtain ⟨t, rfl⟩ := rx
  obtain ⟨l, rfl, e1⟩ := part_of pl
  obtain ⟨u, rfl, e2⟩ := part_of pu
  subst e1 e2
  refine ⟨"str", _, F.slot_str_getitem.lookup, typeIs_str _ _ _, wpAny_getItem_str_slice (l := l) (u := u) (st := none) hs rfl ?_⟩
  exact post_val_or_str ⟨Nat.le_trans (Txt.slice_le z _ _) hz, fun t' k => ⟨.str _, H, I.tok k, ⟨t', rfl⟩, q⟩⟩
noncomputable def Its (x : Str) : It := ⟨fun i _ => i < x.cps.size, fun i H v H' => H' = H ∧ ∃ c, x.cps[i]? = some c ∧ v = .str ⟨#[c]⟩, fun i _ => x.cps.size ≤ i⟩
theorem turn_str {P : Program} {w : World} {K : PySem.W.Frag} {tg : Expr} (it : Addr) (T : String) (x : Str) (t : Tok) (hT : ["enumerate", "zip", "dict_itemiterator", "dict_reverseitemiterator", "odict_iterator", "itertools.zip_longest", "itertools.pairwise"].contains T = false)
    (S : ∀ (A : Around) (i : Nat) (s : Shared) (Q : Value → Shared → Prop) (E : Value → Shared → Prop), s.heap.IsStrIter it T x t i → Q (.ref it) s → wpAny (model P w) A (pyIter (.ref it)) Q E s) (W : ∀ A' : Around, A'.handled = none → Walks P w A' it [it] [it] x.cps.size (SignAt x) (fun i h => h.IsStrIter it T x t i)) : Turn P w K tg (Its x) [it] it (fun i h => i ≤ x.cps.size ∧ h.IsStrIter it T x t i) where
  mem := by simp
  obj := fun i h st b hb => by
    have e : b = it := by simpa using hb
    subst e
    obtain ⟨_, o, e, c, d⟩ := st
    exact ⟨o, e, fun v z => by rw [d] at z; cases z⟩
  keep := fun i h h' st k => ⟨st.1, let ⟨o, ho, r⟩ := st.2; ⟨o, k it (by simp) o ho, r⟩⟩
  item := by
    intro X hP hw hK hc i pins s σ H E I hf st hg
    subst hP hw hK
    obtain ⟨f0, f1, f2, f3, f4, f5⟩ := hf it (by simp)
    refine (W X.A (I.ok.hd hc)).item i s _ _ hg st.2 fun v h' tk hv st' kk => ?_
    obtain ⟨c, u, hx, rfl⟩ := hv
    have I1 : Inv X pins σ H { s with heap := h', toks := tk } := I.turned (fun b o hb e => kk b o (by simpa using hb) e) f0 f1 f3 f4 f5
    obtain ⟨o, e, c1, d⟩ := id st'
    exact ⟨_, rfl, go_of (s := { s with heap := h', toks := tk }) e c1 d hT ⟨.str ⟨#[c]⟩, H, I1, ⟨u, rfl⟩, ⟨rfl, c, hx, rfl⟩, ⟨hg, st'⟩, fun b hb => (hf b hb).1⟩⟩
  done := by
    intro X hP hw hK hc i pins s σ H E I hf st hg
    subst hP hw hK
    obtain ⟨f0, f1, f2, f3, f4, f5⟩ := hf it (by simp)
    have hi : i = x.cps.size := Nat.le_antisymm st.1 hg
    subst hi
    exact (W X.A (I.ok.hd hc)).done s _ _ st.2 fun h' tk kk => ⟨rfl, I.turned (fun b o hb e => kk b o (by simpa using hb) e) f0 f1 f3 f4 f5⟩
  self := fun A i s Q E st h => S A i s Q E st.2 h
noncomputable def iStr (te : TE) : TI := fun σ H R => te σ H fun x H1 => ∃ z, x = .str z ∧ R (Its z) H1
theorem pi_str {tg e : Expr} {te : TE} (he : PE X e te) : PI X tg e (iStr te) := by
  intro pins s σ H R I h
  refine thn (he pins s σ H _ I h) fun v s1 ⟨x, H1, I1, r1, q1⟩ => ?_
  obtain ⟨z, rfl, q⟩ := q1
  obtain ⟨t, rfl⟩ := r1
  have fin : ∀ (T : String) (o : Obj), o.cls = .type T → o.data = .fields #[.str z t, .int (0 : Nat) 0] → o.isFreed = false → Turn X.prog X.w X.K tg (Its z) [s1.heap.objs.size] s1.heap.objs.size (fun i h => i ≤ z.cps.size ∧ h.IsStrIter s1.heap.objs.size T z t i) → PIE X pins σ tg R (.ref s1.heap.objs.size) { s1 with heap := s1.heap.push o } := fun T o h1 h2 hf tn => by
    refine ⟨s1.heap.objs.size, [s1.heap.objs.size], _, _, H1, rfl, I1.kept (t' := s1.toks) fun b o e => Heap.get?_push_of_some _ e, tn, ⟨Nat.zero_le _, o, Heap.get?_push_size _ hf, h1, h2⟩, fun b hb => ?_, q⟩
    have e : b = s1.heap.objs.size := by simpa using hb
    subst e
    exact I1.fpOk (Nat.le_refl _) (I1.hok.fresh (Nat.le_refl _))
  cases ha : z.cps.all (· < 128)
  · exact wpAny_pyIter_wide ha (fin "str_iterator" _ rfl rfl rfl (turn_str _ _ z t (by decide) (fun A i s Q E st h => wpAny_pyIter_striter_wide st h) fun A' hA => Walks.strWide hA _ z t))
  · exact wpAny_pyIter_ascii ha (fin "str_ascii_iterator" _ rfl rfl rfl (turn_str _ _ z t (by decide) (fun A i s Q E st h => wpAny_pyIter_striter_ascii st h) fun A' hA => Walks.strAscii hA _ z t))
noncomputable def tFstr (c : Str) (ta tb : TE) : TE := fun σ H Q => ta σ H fun x H1 => ∃ i : Int, x = .int i ∧ i.natAbs.log2 < 1920 ∧ (Str.ofString (toString i)).length ≤ 1000 ∧ tb σ H1 fun y H2 => ∃ j : Int, y = .int j ∧ j.natAbs.log2 < 1920 ∧
  (((Str.empty ++ Str.ofString (toString i)) ++ c) ++ Str.ofString (toString j)).length ≤ sizeLine ∧ Q (.str (((Str.empty ++ Str.ofString (toString i)) ++ c) ++ Str.ofString (toString j))) H2
theorem pe_fstr {a b : Expr} {ta tb : TE} {c : Str} {k : Nat} {p1 p2 p3 pos : Pos} (ha : PE X a ta) (hb : PE X b tb) (hc : c.length ≤ 100) : PE X (.JoinedStr [.FormattedValue a (-1) none p1, .Constant (.str c) k p2, .FormattedValue b (-1) none p3] pos) (tFstr c ta tb) := by
  intro pins s σ H Q I h
  refine wpAny_JoinedStr ?_
  show wpAny _ _ (eval (.FormattedValue a (-1) none p1) X.env) _ _ _
  refine wpAny_FormattedValue_plain (thn (ha pins s σ H _ I h) fun v s1 ⟨x, H1, I1, r1, i, ex, hi, li, q1⟩ => ?_)
  subst ex
  obtain ⟨t, rfl⟩ := r1
  have fi : (Str.ofString (toString i)).length ≤ sizeLine := int_text_fits hi
  have zi : (Str.empty ++ Str.ofString (toString i)).length ≤ sizeLine := by
    rw [strLen_append]
    show 0 + _ ≤ _
    omega
  refine wpAny_formatField_int hi ⟨_, _, rfl, zi, ?_⟩
  show wpAny _ _ (eval (.Constant (.str c) k p2) X.env) _ _ _
  have J1 := I1.tok (s1.toks + 1 + 1)
  have J2 := J1.tok (s1.toks + 1 + 1 + 1)
  have mid : wpAny (model X.prog X.w) X.A (eval (.FormattedValue b (-1) none p3) X.env) (fun v s3 => ∃ y t, v = .str y t ∧ (((Str.empty ++ Str.ofString (toString i)) ++ c) ++ y).length ≤ sizeLine ∧ (((Str.empty ++ Str.ofString (toString i)) ++ c) ++ y).length ≤ sizeLine ∧ EP X pins σ Q (.str (((Str.empty ++ Str.ofString (toString i)) ++ c) ++ y) s3.toks) { s3 with toks := s3.toks + 1 }) X.xe { s1 with toks := s1.toks + 1 + 1 + 1 } := by
    refine wpAny_FormattedValue_plain (thn (hb pins _ σ H1 _ J2 q1) fun v s4 ⟨y, H4, I4, r4, j, ey, hj, hl, q4⟩ => ?_)
    subst ey
    obtain ⟨t4, rfl⟩ := r4
    exact wpAny_formatField_int hj ⟨_, _, rfl, hl, hl, ⟨.str _, H4, I4.tok _, ⟨_, rfl⟩, q4⟩⟩
  refine Calls.Constant_str ⟨_, _, rfl, ?_, mid⟩
  rw [strLen_append, strLen_append, sizeLine_eq]
  show 0 + _ + _ ≤ _
  omega
end
end L2

set_option genSizeOf false
set_option genInjectivity false
namespace Fm
open PySem PySem.NumText PyProof.Rows
noncomputable abbrev sg (x : Str) : List Nat := x.cps.toList
noncomputable def figs : List Nat → List Nat
  | 45 :: r => r
  | cs => cs
noncomputable def dig (c : Nat) : Bool := decide (48 ≤ c ∧ c ≤ 57)
noncomputable def numOk (cs : List Nat) : Bool := decide (1 ≤ (figs cs).length ∧ (figs cs).length ≤ 60) && (figs cs).all dig && (!((figs cs).head? == some 48) || cs == [48])
noncomputable def numV : List Nat → Int
  | 45 :: r => -((digitsVal r : Nat) : Int)
  | cs => ((digitsVal cs : Nat) : Int)
theorem ext_sg {x y : Str} (h : sg x = sg y) : x = y := by
  obtain ⟨⟨a⟩⟩ := x
  obtain ⟨⟨b⟩⟩ := y
  cases (show a = b from h)
  rfl
theorem all_dig {cs : List Nat} : cs.all dig = true ↔ AllDigits cs := by
  unfold AllDigits dig
  simp only [List.all_eq_true, decide_eq_true_eq]
theorem numOk_iff {cs : List Nat} : numOk cs = true ↔ (1 ≤ (figs cs).length ∧ (figs cs).length ≤ 60) ∧ AllDigits (figs cs) ∧ ((figs cs).head? = some 48 → cs = [48]) := by
  unfold numOk
  rw [Bool.and_eq_true, Bool.and_eq_true, decide_eq_true_eq, all_dig, Bool.or_eq_true, Bool.not_eq_true', beq_iff_eq]
  constructor
  · rintro ⟨⟨h1, h2⟩, h3⟩
    refine ⟨h1, h2, fun e => h3.resolve_left ?_⟩
    rw [e]
    decide
  · rintro ⟨h1, h2, h3⟩
    refine ⟨⟨h1, h2⟩, ?_⟩
    by_cases c : (figs cs).head? = some 48
    · exact .inr (h3 c)
    · exact .inl (beq_eq_false_iff_ne.mpr c)
theorem figs_len (cs : List Nat) : cs.length ≤ (figs cs).length + 1 := by
  unfold figs
  split
  · simp
  · omega
theorem int_word {x : Str} (h : numOk (sg x) = true) : x.length ≤ 640 ∧ PySem.intText? x = some (numV (sg x)) := by
  obtain ⟨⟨h1, h2⟩, h3, _⟩ := numOk_iff.mp h
  have hl : x.length = (sg x).length := by simp [sg, Str.length]
  have hf := figs_len (sg x)
  refine ⟨by omega, ?_⟩
  by_cases c : ∃ r, sg x = 45 :: r
  · obtain ⟨r, e⟩ := c
    rw [e] at h1 h3 ⊢
    have h3 : AllDigits r := h3
    have h1 : 1 ≤ r.length := h1
    exact intText_neg e h3 (by intro z; rw [z] at h1; simp at h1) (by omega)
  · have ef : figs (sg x) = sg x := by
      unfold figs
      split
      · rename_i r e
        exact absurd ⟨r, e⟩ c
      · rfl
    have ev : numV (sg x) = ((digitsVal (sg x) : Nat) : Int) := by
      unfold numV
      split
      · rename_i r e
        exact absurd ⟨r, e⟩ c
      · rfl
    rw [ef] at h1 h3
    rw [ev]
    exact intText_digits h3 (by intro z; rw [show sg x = [] from z] at h1; simp at h1) (by omega)
theorem dv_nil : digitsVal [] = 0 := rfl
theorem dv_snoc (cs : List Nat) (c : Nat) : digitsVal (cs ++ [c]) = digitsVal cs * 10 + (c - 48) := by
  unfold digitsVal
  rw [List.foldl_append]
  rfl
theorem dv_cons_pos {c : Nat} {cs : List Nat} (h : 49 ≤ c) : 1 ≤ digitsVal (c :: cs) := by
  have key : ∀ (l : List Nat) (a : Nat), 1 ≤ a → 1 ≤ l.foldl (fun acc c => acc * 10 + (c - 48)) a := by
    intro l
    induction l with
    | nil => intro a h; exact h
    | cons d l ih => intro a h; exact ih _ (show 1 ≤ a * 10 + (d - 48) by omega)
  unfold digitsVal
  rw [List.foldl_cons]
  exact key cs _ (show 1 ≤ 0 * 10 + (c - 48) by omega)
theorem char_back : ∀ d : Nat, d < 10 → (Nat.digitChar d).toNat = d + 48 := by decide
theorem digits_of_val : ∀ (n : Nat) {cs : List Nat}, cs.length = n → AllDigits cs → cs ≠ [] → (cs.head? = some 48 → cs = [48]) → (Nat.toDigits 10 (digitsVal cs)).map Char.toNat = cs := by
  intro n
  induction n with
  | zero => intro cs h _ h2; exact absurd (List.length_eq_zero_iff.mp h) h2
  | succ n ih =>
    intro cs hl hd hne hz
    obtain ⟨ds, c, rfl⟩ : ∃ ds c, cs = ds ++ [c] := ⟨cs.dropLast, cs.getLast hne, (List.dropLast_concat_getLast hne).symm⟩
    have hc : 48 ≤ c ∧ c ≤ 57 := hd c (by simp)
    have hds : AllDigits ds := fun d h => hd d (by simp [h])
    rw [dv_snoc]
    have hlt : c - 48 < 10 := by omega
    by_cases e : ds = []
    · subst e
      rw [dv_nil, Nat.zero_mul, Nat.zero_add, Nat.toDigits_of_lt_base hlt]
      show [(Nat.digitChar (c - 48)).toNat] = [c]
      rw [char_back _ hlt]
      congr 1
      omega
    · have hp : 1 ≤ digitsVal ds := by
        obtain ⟨d, r, rfl⟩ : ∃ d r, ds = d :: r := by
          cases ds with
          | nil => exact absurd rfl e
          | cons d r => exact ⟨d, r, rfl⟩
        have hd1 := hd d (by simp)
        refine dv_cons_pos ?_
        by_cases z : d = 48
        · have := hz (by simp [z])
          simp at this
        · omega
      have t : Nat.toDigits 10 (digitsVal ds) ++ Nat.toDigits 10 (c - 48) = Nat.toDigits 10 (10 * digitsVal ds + (c - 48)) := Nat.toDigits_append_toDigits (by decide) (by omega) hlt
      rw [Nat.mul_comm, ← t, List.map_append, Nat.toDigits_of_lt_base hlt]
      have hl2 : ds.length = n := by simpa using hl
      rw [ih hl2 hds e (fun z => by
        obtain ⟨d, r, rfl⟩ : ∃ d r, ds = d :: r := by
          cases ds with
          | nil => exact absurd rfl e
          | cons d r => exact ⟨d, r, rfl⟩
        have := hz (by simpa using z)
        simp at this)]
      show ds ++ [(Nat.digitChar (c - 48)).toNat] = ds ++ [c]
      rw [char_back _ hlt]
      congr 2
      omega
theorem str_word {cs : List Nat} (h : numOk cs = true) : sg (Str.ofString (toString (numV cs))) = cs := by
  obtain ⟨⟨h1, h2⟩, h3, h4⟩ := numOk_iff.mp h
  by_cases c : ∃ r, cs = 45 :: r
  · obtain ⟨r, rfl⟩ := c
    have h1 : 1 ≤ r.length := h1
    have h3 : AllDigits r := h3
    have h4 : r.head? = some 48 → 45 :: r = [48] := h4
    have hr : r ≠ [] := by intro z; rw [z] at h1; simp at h1
    have hz : r.head? = some 48 → r = [48] := fun z => by have := h4 z; simp at this
    have e := digits_of_val _ rfl h3 hr hz
    have hp : 1 ≤ digitsVal r := by
      cases r with
      | nil => exact absurd rfl hr
      | cons d r =>
        have hd1 := h3 d (by simp)
        refine dv_cons_pos ?_
        by_cases z : d = 48
        · have := h4 (by simp [z])
          simp at this
        · omega
    show sg (Str.ofString (toString (-((digitsVal r : Nat) : Int)))) = _
    obtain ⟨m, hm⟩ : ∃ m, digitsVal r = m + 1 := ⟨digitsVal r - 1, by omega⟩
    rw [hm] at e ⊢
    show (Str.ofString (toString (Int.negSucc m))).cps.toList = _
    rw [signs_ofString]
    show ("-" ++ Nat.repr (m + 1)).toList.map Char.toNat = _
    rw [String.toList_append, List.map_append, Nat.toList_repr, e]
    rfl
  · have ef : figs cs = cs := by
      unfold figs
      split
      · rename_i r
        exact absurd ⟨r, rfl⟩ c
      · rfl
    have ev : numV cs = ((digitsVal cs : Nat) : Int) := by
      unfold numV
      split
      · rename_i r
        exact absurd ⟨r, rfl⟩ c
      · rfl
    rw [ef] at h1 h3 h4
    rw [ev]
    show (Str.ofString (toString ((digitsVal cs : Nat) : Int))).cps.toList = _
    rw [PySem.W.KIN.signs_num]
    exact digits_of_val _ rfl h3 (by intro z; rw [z] at h1; simp at h1) h4
end Fm

set_option genSizeOf false
set_option genInjectivity false
namespace Fm
open PySem PySem.NumText PyProof.Rows
theorem dv_lt : ∀ (n : Nat) {cs : List Nat}, cs.length = n → AllDigits cs → digitsVal cs < 10 ^ n := by
  intro n
  induction n with
  | zero => intro cs h _; rw [List.length_eq_zero_iff.mp h]; exact Nat.one_pos
  | succ n ih =>
    intro cs hl hd
    have hne : cs ≠ [] := by intro z; rw [z] at hl; simp at hl
    obtain ⟨ds, c, rfl⟩ : ∃ ds c, cs = ds ++ [c] := ⟨cs.dropLast, cs.getLast hne, (List.dropLast_concat_getLast hne).symm⟩
    have hc : 48 ≤ c ∧ c ≤ 57 := hd c (by simp)
    have h1 := ih (cs := ds) (by simpa using hl) (fun d h => hd d (by simp [h]))
    rw [dv_snoc, Nat.pow_succ]
    omega
theorem numV_small {cs : List Nat} (h : numOk cs = true) : (numV cs).natAbs < 10 ^ 60 := by
  obtain ⟨⟨h1, h2⟩, h3, h4⟩ := numOk_iff.mp h
  clear h4
  have key : ∀ r : List Nat, r.length ≤ 60 → AllDigits r → digitsVal r < 10 ^ 60 := fun r hl hd => Nat.lt_of_lt_of_le (dv_lt _ rfl hd) (Nat.pow_le_pow_right (by decide) hl)
  unfold numV
  split
  · rename_i r
    rw [Int.natAbs_neg]
    exact key r h2 h3
  · rename_i hn
    have ef : figs cs = cs := by
      unfold figs
      split
      · rename_i r
        exact absurd rfl (hn r)
      · rfl
    rw [ef] at h2 h3
    exact key cs h2 h3
theorem log_small {n : Int} (h : n.natAbs < 10 ^ 61) : n.natAbs.log2 < 1920 := by
  by_cases z : n.natAbs = 0
  · rw [z]
    decide
  · exact (Nat.log2_lt z).mpr (Nat.lt_of_lt_of_le h (Nat.le_trans (show 10 ^ 61 ≤ 2 ^ 203 by decide) (Nat.pow_le_pow_right (by decide) (by decide))))
noncomputable def colon : Str := ⟨#[58]⟩
noncomputable def blank : Str := ⟨#[32]⟩
noncomputable def stT (p : Int × Int) : Str := (Str.ofString (toString p.1) ++ colon) ++ Str.ofString (toString p.2)
noncomputable def rowText (r : Row) : Str := Str.join blank (r.map stT)
noncomputable def stone? (w : Str) : Option (Int × Int) := match Txt.split w colon with
  | [a, b] => if (numOk (sg a) && numOk (sg b)) = true then some (numV (sg a), numV (sg b)) else none
  | _ => none
theorem stone_some {w : Str} {p : Int × Int} (h : stone? w = some p) : ∃ a b, Txt.split w colon = [a, b] ∧ numOk (sg a) = true ∧ numOk (sg b) = true ∧ p = (numV (sg a), numV (sg b)) := by
  unfold stone? at h
  split at h
  · rename_i a b e
    split at h
    · rename_i c
      rw [Bool.and_eq_true] at c
      cases h
      exact ⟨a, b, e, c.1, c.2, rfl⟩
    · cases h
  · cases h
theorem stone_text {w : Str} {p : Int × Int} (h : stone? w = some p) : stT p = w := by
  obtain ⟨a, b, e, h1, h2, rfl⟩ := stone_some h
  have j := StrLaws.join_split w colon
  rw [e] at j
  have ea : Str.ofString (toString (numV (sg a))) = a := ext_sg (str_word h1)
  have eb : Str.ofString (toString (numV (sg b))) = b := ext_sg (str_word h2)
  unfold stT
  rw [ea, eb]
  exact j
noncomputable def stones? : List Str → Option Row
  | [] => some []
  | w :: ws => (stone? w).bind fun p => (stones? ws).map (p :: ·)
theorem stones_text : ∀ {ws : List Str} {r : Row}, stones? ws = some r → r.map stT = ws
  | [], r, h => by cases h; rfl
  | w :: ws, r, h => by
    obtain ⟨p, hp, h⟩ := Option.bind_eq_some_iff.mp h
    obtain ⟨q, hq, rfl⟩ := Option.map_eq_some_iff.mp h
    rw [List.map_cons, stone_text hp, stones_text hq]
noncomputable def risesB : Row → Bool
  | p :: q :: r => decide (p.1 < q.1) && risesB (q :: r)
  | _ => true
noncomputable def goodB (r : Row) : Bool := r.all (fun p => decide (1 ≤ p.2)) && risesB r
noncomputable def rowT (T : Str) : Option Row := if sg T = [] then some [] else (stones? (Txt.split T blank)).bind fun r => if goodB r = true then some r else none
theorem rowT_text {T : Str} {r : Row} (h : rowT T = some r) : rowText r = T := by
  unfold rowT at h
  split at h
  · rename_i e
    cases h
    exact ext_sg e.symm
  · obtain ⟨q, hq, h⟩ := Option.bind_eq_some_iff.mp h
    split at h
    · cases h
      unfold rowText
      rw [stones_text hq]
      exact StrLaws.join_split T blank
    · cases h
theorem risesB_adj : ∀ {r : Row}, risesB r = true ↔ ∀ i, i + 1 < r.length → pl r i < pl r (i + 1)
  | [] => by simp [risesB]
  | [p] => by simp [risesB]
  | p :: q :: r => by
    have ih := risesB_adj (r := q :: r)
    unfold risesB
    rw [Bool.and_eq_true, decide_eq_true_eq, ih]
    constructor
    · rintro ⟨h1, h2⟩ i hi
      cases i with
      | zero => exact h1
      | succ i => exact h2 i (by simpa using hi)
    · intro h
      exact ⟨h 0 (by simp), fun i hi => h (i + 1) (by simpa using hi)⟩
theorem adj_rise {r : Row} (h : ∀ i, i + 1 < r.length → pl r i < pl r (i + 1)) : ∀ i j, i < j → j < r.length → pl r i < pl r j := by
  intro i j hij
  induction j with
  | zero => omega
  | succ j ih =>
    intro hj
    by_cases e : i = j
    · subst e
      exact h i hj
    · exact Int.lt_trans (ih (by omega) (by omega)) (h j hj)
theorem ht_at {r : Row} {i : Nat} (h : i < r.length) : ht r i = (r[i]'h).2 := by
  unfold ht
  rw [List.getD_eq_getElem?_getD, List.getElem?_eq_getElem h]
  rfl
theorem goodB_iff {r : Row} : goodB r = true ↔ Good r := by
  unfold goodB
  rw [Bool.and_eq_true, risesB_adj, List.all_eq_true]
  constructor
  · rintro ⟨h1, h2⟩
    refine ⟨adj_rise h2, fun i hi => ?_⟩
    rw [ht_at hi]
    exact of_decide_eq_true (h1 _ (List.getElem_mem hi))
  · intro g
    refine ⟨fun p hp => ?_, fun i hi => g.rise i (i + 1) (by omega) hi⟩
    obtain ⟨i, hi, rfl⟩ := List.getElem_of_mem hp
    have := g.high i hi
    rw [ht_at hi] at this
    exact decide_eq_true this
noncomputable def inGo (acc : Row) : List Str → Option Row
  | [] => some acc
  | w :: ws => match stone? w with
    | none => none
    | some p => if p.2 < 1 then none else if (acc ≠ [] ∧ pl acc (acc.length - 1) ≥ p.1) then none else inGo (acc ++ [p]) ws
theorem risesB_snoc {acc : Row} {p : Int × Int} : risesB (acc ++ [p]) = true ↔ risesB acc = true ∧ ¬ (acc ≠ [] ∧ pl acc (acc.length - 1) ≥ p.1) := by
  rw [risesB_adj, risesB_adj]
  have e1 : ∀ i, i < acc.length → pl (acc ++ [p]) i = pl acc i := fun i hi => by
    unfold pl
    rw [List.getD_eq_getElem?_getD, List.getD_eq_getElem?_getD, List.getElem?_append_left hi]
  have e2 : pl (acc ++ [p]) acc.length = p.1 := by
    unfold pl
    rw [List.getD_eq_getElem?_getD, List.getElem?_append_right (Nat.le_refl _)]
    simp
  have el : (acc ++ [p]).length = acc.length + 1 := by simp
  constructor
  · intro h
    refine ⟨fun i hi => ?_, fun ⟨hn, hp⟩ => ?_⟩
    · have := h i (by omega)
      rw [e1 i (by omega), e1 (i + 1) hi] at this
      exact this
    · have hl : 1 ≤ acc.length := by
        cases acc with
        | nil => exact absurd rfl hn
        | cons a b => simp
      have := h (acc.length - 1) (by omega)
      rw [e1 _ (by omega), show acc.length - 1 + 1 = acc.length by omega, e2] at this
      omega
  · rintro ⟨h1, h2⟩ i hi
    by_cases c : i + 1 < acc.length
    · rw [e1 i (by omega), e1 (i + 1) c]
      exact h1 i c
    · have ei : i + 1 = acc.length := by omega
      rw [e1 i (by omega), ei, e2]
      by_cases hn : acc = []
      · subst hn
        simp at ei
      · have := fun hp => h2 ⟨hn, hp⟩
        rw [show acc.length - 1 = i by omega] at this
        exact Int.not_le.mp fun hp => this hp
theorem risesB_pre {acc : Row} : ∀ {r : Row}, risesB (acc ++ r) = true → risesB acc = true := by
  intro r
  rw [risesB_adj, risesB_adj]
  intro h i hi
  have e1 : ∀ i, i < acc.length → pl (acc ++ r) i = pl acc i := fun i hi => by
    unfold pl
    rw [List.getD_eq_getElem?_getD, List.getD_eq_getElem?_getD, List.getElem?_append_left hi]
  have := h i (by rw [List.length_append]; omega)
  rw [e1 i (by omega), e1 (i + 1) hi] at this
  exact this
theorem inGo_eq : ∀ {ws : List Str} {acc : Row}, goodB acc = true → inGo acc ws = (stones? ws).bind fun r => if goodB (acc ++ r) = true then some (acc ++ r) else none
  | [], acc, h => by
    show some acc = if goodB (acc ++ []) = true then some (acc ++ []) else none
    rw [List.append_nil, if_pos h]
  | w :: ws, acc, h => by
    unfold inGo stones?
    cases hs : stone? w with
    | none => rfl
    | some p =>
      dsimp only [Option.bind_some]
      have ga : ∀ r : Row, goodB (acc ++ r) = (goodB acc && r.all (fun p => decide (1 ≤ p.2)) && risesB (acc ++ r)) := fun r => by
        have ha := h
        unfold goodB at ha ⊢
        rw [Bool.and_eq_true] at ha
        rw [List.all_append, ha.1, ha.2]
        simp
      have fail : (¬ goodB (acc ++ [p]) = true) → ((stones? ws).map (p :: ·)).bind (fun r => if goodB (acc ++ r) = true then some (acc ++ r) else none) = none := fun hf => by
        cases hws : stones? ws with
        | none => rfl
        | some r =>
          show (if goodB (acc ++ (p :: r)) = true then some (acc ++ (p :: r)) else none) = none
          refine if_neg fun hg => hf ?_
          rw [ga] at hg ⊢
          simp only [Bool.and_eq_true, List.all_cons] at hg ⊢
          refine ⟨⟨hg.1.1, ?_⟩, ?_⟩
          · simp [of_decide_eq_true hg.1.2.1]
          · exact risesB_pre (r := r) (by rw [List.append_assoc]; exact hg.2)
      by_cases c1 : p.2 < 1
      · rw [if_pos c1, fail]
        rw [ga]
        simp
        intro _ h2
        omega
      · rw [if_neg c1]
        by_cases c2 : acc ≠ [] ∧ pl acc (acc.length - 1) ≥ p.1
        · rw [if_pos c2, fail]
          rw [ga]
          intro hg
          simp only [Bool.and_eq_true] at hg
          exact (risesB_snoc.mp hg.2).2 c2
        · rw [if_neg c2]
          have hg : goodB (acc ++ [p]) = true := by
            rw [ga]
            simp only [Bool.and_eq_true]
            have hr : risesB acc = true := by
              unfold goodB at h
              rw [Bool.and_eq_true] at h
              exact h.2
            exact ⟨⟨h, by simp; omega⟩, risesB_snoc.mpr ⟨hr, c2⟩⟩
          rw [inGo_eq hg]
          cases stones? ws with
          | none => rfl
          | some r =>
            show (if goodB (acc ++ [p] ++ r) = true then some (acc ++ [p] ++ r) else none) = if goodB (acc ++ (p :: r)) = true then some (acc ++ (p :: r)) else none
            rw [List.append_assoc]
            rfl
end Fm

set_option genSizeOf false
set_option genInjectivity false
namespace L2
open PySem PySem.Spec PyProof.Rows
section
variable {prog : Program} {w : World} {A : Around} {E : Value → Shared → Prop} {s : Shared} {env : Env}
variable {nm q : Str} {C N : Addr} {bs bm bmB : List Value} {hdct : Bool} {sn : List Str} {sub : List Value} {ab : Bool} {col : Option Bool} {dd : Option Addr} {k0 k1 k2 k3 k5 : Option Value} {newId : String}
theorem call_made {B initId : String} (F : ExcBaseFacts B newId initId bmB) {mN : Str → Option Value} {x : Str} {np cpos : Pos} {args : List Expr} {Q : Value → Shared → Prop} (hplain : (backTo cpos (starEach args env)).any (·.1) = false) (hni : mN "__init__" = none)
    (h : wpAny (model prog w) A (eval (.Name x np) env) (fun f s₁ => f = .ref C ∧ wpAny (model prog w) A (evalArgs (.ref C) true (backTo cpos (starEach args env)) [])
      (fun a s₂ => a.kw = [] ∧ a.pos.length ≤ sizeLine ∧ s₂.heap.get? C = some (excClassObj nm q C N bs bm hdct sn sub ab col dd k0 k1 k2 k3 k5 newId) ∧ s₂.heap.Ns N mN ∧ OwnTail s₂.heap bmB bm ∧
        ∀ h' e, Heap.MadeExcOf s₂.heap h' e (.ref C) a.pos → Q (.ref e) { s₂ with heap := h' }) E s₁) E s) :
    wpAny (model prog w) A (eval (.Call (.Name x np) args [] cpos) env) Q E s := by
  refine wpAny_Call_ofName (wpAny_mono h (fun f s₁ h₁ => ?_) fun _ _ x => x)
  obtain ⟨rfl, h₁⟩ := h₁
  unfold callWith
  refine wpAny_bind (wpAny_holding (wpAny_mono h₁ (fun a s₂ h₂ => wpAny_bind (wpAny_standAt ?_)) fun _ _ x => x))
  obtain ⟨apos, akw⟩ := a
  obtain ⟨hkw, hlen, hC, hn, T, h₂⟩ := h₂
  obtain rfl : akw = [] := hkw
  obtain ⟨hp, g, d, tk, os⟩ := s₂
  simp only [hplain]
  refine wpAny_bind (wpAny_keeperOf_exc hC ?_)
  exact wpAny_bind (wpAny_call_exc_subT (hrest := hlen) F T hC hn hni fun h' e hm => wpAny_bind (wpAny_holding (wpAny_point (wpAny_pure (h₂ h' e hm)))))
noncomputable def fromNone (x0 e : Addr) (h : Heap) : Heap := ((h.update e (Obj.mapFields (·.setIfInBounds 3 .none))).update e (Obj.mapFields (·.setIfInBounds 4 (.bool true)))).update e (Obj.mapFields (·.setIfInBounds 2 (.ref x0)))
theorem raise_from {x c : Sem Value} (hc : ∀ (s : Shared) (Q : Value → Shared → Prop), Q .none s → wpAny (model prog w) A c Q E s) {Q : Flow → Shared → Prop} {x0 : Addr} {ox : Obj} {vx : Array Value} (hbase : bm.contains (.type "BaseException") = true) (hh : A.handled = some (.ref x0))
    (h : wpAny (model prog w) A x (fun v s₁ => ∃ e t, v = .ref e ∧ s₁.heap.get? C = some (excClassObj nm q C N bs bm hdct sn sub ab col dd k0 k1 k2 k3 k5 newId) ∧
      s₁.heap.get? e = some { cls := .ref C, data := .fields #[.ref t, .none, .none, .none, .bool false, .none] } ∧ x0 ≠ e ∧ C ≠ e ∧ s₁.heap.get? x0 = some ox ∧ ox.data = .fields vx ∧ vx[2]? = some .none ∧ E (.ref e) { s₁ with heap := fromNone x0 e s₁.heap }) E s) :
    wpAny (model prog w) A (raiseStmt env (some x) (some c)) Q E s := by
  have hcB : (Value.ref C :: bm).contains (.type "BaseException") = true := by rw [List.contains_cons, hbase, Bool.or_true]
  unfold raiseStmt
  refine wpAny_bind (wpAny_mono h (fun v s₁ h₁ => ?_) fun _ _ x => x)
  obtain ⟨e, t, rfl, hC, he, ne, nC, hx0, dx0, z0, hE⟩ := h₁
  obtain ⟨hp, g, d, tk, os⟩ := s₁
  refine wpAny_bind (wpAny_holding (hc _ _ (wpAny_bind (wpAny_pure ?_))))
  refine wpAny_bind (wpAny_holding ?_)
  have fin : wpAny (model prog w) A (excFromValue (.ref e) "exceptions must derive from BaseException") (fun v s' => v = .ref e ∧ s' = ⟨hp, g, d, tk, os⟩) E ⟨hp, g, d, tk, os⟩ := by
    unfold excFromValue
    repeat (first | with_reducible refine wpAny_loadPart_at he ?_ | with_reducible refine wpAny_loadPart_at hC ?_ | (with_reducible refine wpAny_isSubtype_exc hC ?_; rw [hcB]) | wp_step)
    exact ⟨rfl, rfl⟩
  refine wpAny_mono fin (fun v s' hv => ?_) fun _ _ z => z
  obtain ⟨rfl, rfl⟩ := hv
  dsimp only
  rw [if_pos (by decide)]
  refine wpAny_bind (wpAny_pure ?_)
  refine wpAny_bind (wpAny_setField he rfl (show 3 < 6 by decide) ?_)
  have he1 : (hp.update e (Obj.mapFields (·.setIfInBounds 3 Value.none))).get? e = some { cls := .ref C, data := .fields #[.ref t, .none, .none, .none, .bool false, .none] } := Heap.get?_update_self _ he rfl
  refine wpAny_bind (wpAny_setField he1 rfl (show 4 < 6 by decide) ?_)
  have he2 : ((hp.update e (Obj.mapFields (·.setIfInBounds 3 Value.none))).update e (Obj.mapFields (·.setIfInBounds 4 (.bool true)))).get? e = some { cls := .ref C, data := .fields #[.ref t, .none, .none, .none, .bool true, .none] } := Heap.get?_update_self _ he1 rfl
  have hC2 : ((hp.update e (Obj.mapFields (·.setIfInBounds 3 Value.none))).update e (Obj.mapFields (·.setIfInBounds 4 (.bool true)))).get? C = some _ := (Heap.get?_update_other _ _ nC.symm).trans ((Heap.get?_update_other _ _ nC.symm).trans hC)
  have hx2 : ((hp.update e (Obj.mapFields (·.setIfInBounds 3 Value.none))).update e (Obj.mapFields (·.setIfInBounds 4 (.bool true)))).get? x0 = some ox := (Heap.get?_update_other _ _ ne.symm).trans ((Heap.get?_update_other _ _ ne.symm).trans hx0)
  have fin2 : E (.ref e) ⟨((hp.update e (Obj.mapFields (·.setIfInBounds 3 Value.none))).update e (Obj.mapFields (·.setIfInBounds 4 (.bool true)))).update e (Obj.mapFields (·.setIfInBounds 2 (.ref x0))), g, d, tk, os⟩ := hE
  clear hE fin h
  show wpAny _ _ _ _ _ (⟨(hp.update e (Obj.mapFields (·.setIfInBounds 3 Value.none))).update e (Obj.mapFields (·.setIfInBounds 4 (.bool true))), g, d, tk, os⟩ : Shared)
  generalize hg : (hp.update e (Obj.mapFields (·.setIfInBounds 3 Value.none))).update e (Obj.mapFields (·.setIfInBounds 4 (.bool true))) = h2 at he2 hC2 hx2 fin2 ⊢
  repeat (first | with_reducible refine wpAny_loadPart_at he2 ?_ | with_reducible refine wpAny_loadPart_at hC2 ?_ | (with_reducible refine wpAny_isSubtype_exc hC2 ?_; rw [hcB]) | wp_step)
  exact raiseNew_in (s := ⟨h2, g, d, tk, os⟩) hh ne hx2 dx0 z0 he2 rfl (show 2 < 6 by decide) fin2
end
noncomputable abbrev Ga : Value → Prop := fun _ => True
section
variable {X : Cx} {G : Value → Prop} {pins : List (Addr × Obj)} {σ : L2.St} {H H' : Hp} {s : Shared} {h1 : Heap} {x C : Addr}
theorem madeG {E : XK} {oe : Obj} {vs : Array Value} (R : RXG G X E) (I : Inv X pins σ H s) (keeps : ∀ b o, s.heap.get? b = some o → h1.get? b = some o) (new : s.heap.get? x = none) (he : h1.get? x = some oe) (hc : oe.cls = .ref C ∧ oe.dict = none) (hd : oe.data = .fields vs)
    (f1 : vs[1]? = some .none) (f2 : ∃ cx, vs[2]? = some cx ∧ G cx) (q : E (.ref C) (some x) H) : X.xe (.ref x) { s with heap := h1 } := by
  rw [R.xe]
  have hst := R.st
  have hex := R.ex
  have hfr := I.ok.frames
  have fu := I.stack
  have hxn : H x = none := by
    cases y : H x with
    | none => rfl
    | some u =>
      obtain ⟨o, z⟩ := (I.hok x u y).here
      rw [new] at z
      cases z
  have st : (PySem.W.hideAll s.heap (frs X.stack)).StaysIn s.heap := fun b o z => PySem.W.of_hideAll _ z
  have fh : s.heap.FunFrames (PySem.W.hideAll s.heap (frs X.stack)) X.stack := PySem.W.funFrames_hide fu fun env he b hb => List.mem_filterMap.mpr ⟨env, he, hb⟩
  have nw : (PySem.W.hideAll s.heap (frs X.stack)).get? x = none := by
    cases y : (PySem.W.hideAll s.heap (frs X.stack)).get? x with
    | none => rfl
    | some o => have := st x o y; rw [new] at this; cases this
  have fr1 : h1.FunFrames (PySem.W.hideAll s.heap (frs X.stack)) (X.env :: X.outer) := by
    rw [← hst]
    exact fh.of_keeps fun b o z _ => ⟨o, keeps b o z, rfl⟩
  have fr2 : X.A.frames = some (X.env :: X.outer) := by rw [← hst]; exact hfr
  refine leave_new (B := PySem.W.hideAll s.heap (frs X.stack)) (s := { s with heap := h1 }) fr2 R.fr (fun b o z => keeps b o (st b o z)) nw fr1 he hc hd f1 f2 fun h' F' U => ?_
  refine cxe_end I hst R.fr hex (Un.kept keeps) (I.hok.kept keeps) new hxn (fun b o z y n => ?_) F' (fun b _ => U b) q rfl rfl I.bare
  have z1 : ∃ u, s.heap.get? b = some u := by
    rcases y with ⟨u, y⟩ | ⟨u, y⟩
    · exact I.base.there b u y (by rw [hex]; simp)
    · exact (I.hok b u y).here
  obtain ⟨u, z1⟩ := z1
  have := keeps b u z1
  rw [z] at this
  cases this
  exact PySem.W.hideAll_get _ z1 n
noncomputable def tTryR (K : PySem.W.Frag) (HC C2 : Addr) (E : XK) (sp : Sp) (t : TA) : TS := fun D σ H => t σ H fun vs H1 => ∃ E1 : XK, sp (vs ++ []) H1 (fun _ H2 => D.nx σ H2) E1 ∧
  ∀ C x H', E1 (.ref C) (some x) H' → H' x = none → PySem.W.exmOne K (.ref C) (.ref HC) = some true ∧ ∀ e, E (.ref C2) (some e) (upd H' x (ExcO x C))
theorem ps_tryR {f hn cn : Str} {HC C2 : Addr} {k : Nat} {ps : List Str} {sp : Sp} {t : TA} {E : XK} {e : Expr} {es : List Expr} {msg : Str} {mk : Nat} {p cp ep np hp tp cnp ccp rp mp nnp : Pos} {nk : Nat} (R : RXG Ga X E) (D0 : DfnG Gn X.prog X.w X.K X.mg X.base f k ps sp) (hr : Room k X.A) (hg : Gl X f) (ha : PA X.nox (e :: es) t)
    (hH : X.mg hn = some (.ref HC)) (gH : Gl X hn) (hC2 : X.mg cn = some (.ref C2)) (gC : Gl X cn) (k2 : ExcK X.K C2) (hml : msg.length ≤ sizeLine)
    (hdb : (f == ("__debug__" : Str)) = false := by decide +kernel) (hdh : (hn == ("__debug__" : Str)) = false := by decide +kernel) (hdc : (cn == ("__debug__" : Str)) = false := by decide +kernel) (he : starEach (e :: es) X.env = (false, eval e X.env) :: starEach es X.env := by rfl) (hpl : (backTo cp (starEach es X.env)).any (·.1) = false := by rfl)
    (hsw : swapsWith (.Call (.Name f p) (e :: es) [] cp) none ep.line X.env = pure false := by rfl) :
    PS X (.Try [.Expr (.Call (.Name f p) (e :: es) [] cp) ep] [.ExceptHandler (some (.Name hn np)) none [.Raise (some (.Call (.Name cn cnp) [.Constant (.str msg) mk mp] [] ccp)) (some (.Constant .none nk nnp)) rp] hp] [] [] tp) (tTryR X.K HC C2 E sp t) := by
  intro pins s σ H D I h
  obtain ⟨fa, fd, hm, hk, hb, F⟩ := D0
  have hst := R.st
  have hfr := R.fr
  refine wpAny_Try_except (wpAny_execs_cons (wpAny_Expr_any (wpAny_Call_Name_kw (ld_glob I hg hm ?_ hdb)) I.quiet hsw))
  refine PySem.W.callWith_K (h₀ := X.base) I.ok.mod.kin hk (wpAny_mono (ha cp pins s σ H _ (I.wish _) h) (fun us s1 ⟨vs, H1, I1, r, q⟩ => ⟨I1.kIn, ?_⟩) (fun e s' z => False.elim z)) he hpl
  have I1 := I1.unwish
  obtain ⟨E1, q1, q2⟩ := q
  have r2 : Vals (vs ++ []) (us ++ []) := r.append .nil
  have hlen : (us ++ []).length = ps.length := by rw [← r2.length]; exact F.len _ _ _ _ q1
  refine wpAny_call (codeAny_mono (F.run X.A X.stack s1 H1 ⟨us, []⟩ (us ++ []) (vs ++ []) _ E1 hr I1.env0 (hb s1 us I1.kIn hlen) r2 q1) fun res s' hq => ?_)
  cases res with
  | ok fl =>
    cases fl with
    | ret u =>
      obtain ⟨v, H', J, rv, z⟩ := I1.after hq
      exact wpAny_execs_nil (wpAny_execs_nil ⟨_, H', J, z⟩)
    | next => exact False.elim hq
    | brk => exact False.elim hq
    | cont => exact False.elim hq
  | error ev =>
    obtain ⟨x, C, B, H', rfl, ho, hgn, un, hok, hx, hx', F1, kb, q⟩ := hq
    obtain ⟨hex, qth⟩ := q2 C x H' q hx'
    have hfra : X.A.frames = some (X.env :: X.outer) := by rw [← hst]; exact I.ok.frames
    have F1' := F1
    rw [hst] at F1'
    refine note_on hfra hfr F1' fun g1 G1 U1 => land_ok G1 fun g2 G2 U2 => ?_
    have G2' : Fly Gn B X.stack x (.ref C) .none g2 := by rw [hst]; exact G2
    have J1 : Inv X pins σ (upd H' x (ExcO x C)) { s' with heap := g2 } := catch_inv I1 un hok hx hx' kb G2' (U1.trans U2) rfl ho hgn
    have J1h : Inv (Xh X x) pins σ (upd H' x (ExcO x C)) { s' with heap := g2 } := J1.toH
    refine wpAny_handleBy_cons (codeAny_handlers_test (ld_glob (X := Xh X x) J1h gH hH ?_ hdh)) (by intro z; cases z)
    have LT : PySem.W.Looks (model X.prog X.w) g2 (typeOf (.ref x)) (.ref C) := by
      obtain ⟨ox, II⟩ := (exc_in J1 upd_same).inst
      exact II.type
    refine (PySem.W.exm_one (M := model X.prog X.w) J1.kIn LT hex).here (s := { s' with heap := g2 }) (codeAny_handlers_suite ?_)
    refine land_ok G2 fun g3 G3 U3 => ?_
    have G3' : Fly Gn B X.stack x (.ref C) .none g3 := by rw [hst]; exact G3
    have J2 : Inv X pins σ (upd H' x (ExcO x C)) { s' with heap := g3 } := catch_inv I1 un hok hx hx' kb G3' ((U1.trans U2).trans U3) rfl ho hgn
    have J2h : Inv (Xh X x) pins σ (upd H' x (ExcO x C)) { s' with heap := g3 } := J2.toH
    obtain ⟨bm, N, nm, qn, bs, hdct, sn, sub, ab, col, dd, k0, k1, k2', k3, k5, mN, hCo, hN, hni, TT⟩ := exc_obj I.mod.kin k2.is
    have hx0 := exc_in J2 (G := Gn) upd_same
    obtain ⟨ox, vx, ox1, _, ox2, cx, ox3, rfl⟩ := hx0
    refine wpAny_execs_cons ?_
    rw [arm_exec_Raise]
    refine wpAny_bind (wpAny_standAt ?_)
    refine raise_from (C := C2) (nm := nm) (q := qn) (N := N) (bs := bs) (bm := bm) (hdct := hdct) (sn := sn) (sub := sub) (ab := ab) (col := col) (dd := dd) (k0 := k0) (k1 := k1) (k2 := k2') (k3 := k3) (k5 := k5) (newId := "ValueError.__new__") (x0 := x) (ox := ox) (vx := vx) (fun s Q q => ?_) (TT.hasType (X := "BaseException") (b := true) (by decide)) rfl ?_
    · exact wpAny_bind (Constant_none (wpAny_bind (wpAny_standAt (wpAny_pure q))))
    have fin : ∀ (e : Addr) (h5 : Heap) (tk : Nat) (vs : List Value), Heap.MadeExcOf g3 h5 e (.ref C2) vs → X.xe (.ref e) { s' with heap := fromNone x e h5, toks := tk } := fun e h5 tk vs m => by
      obtain ⟨t, he5, _, _⟩ := m.there
      have nk : ∀ b o, g3.get? b = some o → e ≠ b := fun b o z y => by
        rw [← y, m.new] at z
        cases z
      have u1 : (h5.update e (Obj.mapFields (·.setIfInBounds 3 Value.none))).get? e = some { cls := .ref C2, data := .fields #[.ref t, .none, .none, .none, .bool false, .none] } := Heap.get?_update_self _ he5 rfl
      have u2 : ((h5.update e (Obj.mapFields (·.setIfInBounds 3 Value.none))).update e (Obj.mapFields (·.setIfInBounds 4 (.bool true)))).get? e = some { cls := .ref C2, data := .fields #[.ref t, .none, .none, .none, .bool true, .none] } := Heap.get?_update_self _ u1 rfl
      have u3 : (fromNone x e h5).get? e = some { cls := .ref C2, data := .fields #[.ref t, .none, .ref x, .none, .bool true, .none] } := Heap.get?_update_self _ u2 rfl
      have J3 : Inv X pins σ (upd H' x (ExcO x C)) { s' with heap := g3, toks := tk } := J2.tok tk
      refine madeG (s := { s' with heap := g3, toks := tk }) R J3 (fun b o z => ?_) m.new u3 ⟨rfl, rfl⟩ rfl rfl ⟨_, rfl, trivial⟩ (qth e)
      have n := nk b o z
      exact (Heap.get?_update_other _ _ n).trans ((Heap.get?_update_other _ _ n).trans ((Heap.get?_update_other _ _ n).trans (m.keeps b o z)))
    refine wpAny_bind (call_made (nm := nm) (q := qn) (N := N) (bs := bs) (bm := bm) (hdct := hdct) (sn := sn) (sub := sub) (ab := ab) (col := col) (dd := dd) (k0 := k0) (k1 := k1) (k2 := k2') (k3 := k3) (k5 := k5) PySem.F.excBase_ValueError (mN := mN) rfl hni (ld_glob (X := Xh X x) J2h gC hC2 ⟨rfl, ?_⟩ hdc))
    have sp1 : starEach [Expr.Constant (.str msg) mk mp] X.env = [(false, eval (.Constant (.str msg) mk mp) X.env)] := rfl
    rw [sp1]
    refine Calls.evalArgs_plain (Calls.spliced_cons (Calls.Constant_str (k := mk) (pos := mp) (Calls.spliced_nil ?_)))
    refine ⟨rfl, (show 1 ≤ sizeLine by decide), J2.bk _ _ hCo, hN.keeps J2.bk, TT.keeps J2.bk, fun h5 e m => ?_⟩
    obtain ⟨t, he5, _, _⟩ := id m.there
    refine wpAny_bind (wpAny_standAt (wpAny_pure ⟨e, t, rfl, m.keeps _ _ (J2.bk _ _ hCo), he5, ?_, ?_, m.keeps _ _ ox1, ox2, ox3, ?_⟩))
    · rintro rfl
      have : g3.get? x = none := m.new
      rw [ox1] at this
      cases this
    · rintro rfl
      have : g3.get? C2 = none := m.new
      have z := J2.bk _ _ hCo
      rw [this] at z
      cases z
    · have PO := PassesOwnAt.leaving (M := model X.prog X.w) (A := X.A) (hd := some (.ref x)) (env := X.env) (Q₁ := fun e s'' => CXG Ga X.prog X.w X.outer X.H₀ X.s₀ E e s'') (E₁ := fun e' s'' => CXG Ga X.prog X.w X.outer X.H₀ X.s₀ E e' s'')
      rw [← R.xe] at PO
      exact PO (.ref e) _ (fin e h5 _ _ m)
end
end L2

set_option genSizeOf false
set_option genInjectivity false
namespace L2
open PySem PySem.Spec PyProof.Rows
theorem funFrames_but {h h' base : Heap} {C : Addr} (sb : Heap.SameBut C h h') : ∀ {l : List Env}, h.FunFrames base l → (∀ b ∈ frs l, b ≠ C) → h'.FunFrames base l
  | [], _, _ => trivial
  | env :: rest, ⟨hk, ⟨L, o, hf, hn, ho, hd⟩, hr⟩, hne =>
    ⟨hk, ⟨L, o, hf, hn, (sb.2 L (hne L (List.mem_filterMap.mpr ⟨env, .head _, hf⟩))).trans ho, hd⟩, funFrames_but sb hr fun b hb => hne b (by
      obtain ⟨e, he, hb⟩ := List.mem_filterMap.mp hb
      exact List.mem_filterMap.mpr ⟨e, .tail _ he, hb⟩)⟩
section
variable {M : Model} {A : Around} {E : Value → Shared → Prop} {s : Shared} {G : Value → Prop} {B : Heap} {env : Env} {outer : List Env} {L e : Addr} {cls fl : Value} {Q : Unit → Shared → Prop}
theorem Fly.but {l : List Env} {h h' : Heap} {C : Addr} {oC : Obj} (F : Fly G B l e cls fl h) (hC : B.get? C = some oC) (nf : C ∉ frs l) (sb : Heap.SameBut C h h') : Fly G (PySem.W.hideAll B [C]) l e cls fl h' := by
  obtain ⟨st, new, fr, oe, vs, T, oT, ts, he, hc, hd, h2, h1, bT, nT, hT, dT, h3⟩ := F
  have sub : (PySem.W.hideAll B [C]).StaysIn B := fun b o z => PySem.W.of_hideAll _ z
  have ne : C ≠ e := fun y => by rw [y, new] at hC; cases hC
  have nt : C ≠ T := fun y => by rw [y, bT] at hC; cases hC
  have hn : ∀ b, B.get? b = none → (PySem.W.hideAll B [C]).get? b = none := fun b z => by
    cases y : (PySem.W.hideAll B [C]).get? b with
    | none => rfl
    | some o => have := sub b o y; rw [z] at this; cases this
  have nC : ∀ b o, (PySem.W.hideAll B [C]).get? b = some o → b ≠ C := fun b o z y => by
    subst y
    have : (PySem.W.hideAll B [b]).get? b = none := Heap.hide_self _ _
    rw [this] at z
    cases z
  exact ⟨fun b o z => (sb.2 b (nC b o z)).trans (st b o (sub b o z)), hn e new, PySem.W.funFrames_base sub (funFrames_but sb fr fun b hb y => nf (y ▸ hb)), oe, vs, T, oT, ts, (sb.2 e ne.symm).trans he, hc, hd, h2, h1, hn T bT, nT, (sb.2 T nt.symm).trans hT, dT, h3⟩
theorem flight_ok {l : List Env} (fr : Option Addr) (F : Fly G B l e cls fl s.heap) (q : ∀ h', Fly G B l e cls (fr.elim Value.none fun f => rawInt f) h' → s.heap.UpToSlots h' → Q () { s with heap := h' }) : wpAny M A (setFlight (.ref e) fr) Q E s := by
  obtain ⟨st, new, fr', oe, vs, T, oT, ts, he, hc, hd, h2, h1, bT, nT, hT, dT, h3⟩ := F
  have tz : 3 < ts.size := (Array.getElem?_eq_some_iff.mp h3).1
  unfold setFlight
  refine wpAny_bind (wpAny_field he hd h1 ?_)
  rw [if_pos (by simp)]
  have ot : ∀ (f : Obj → Obj) b, b ≠ T → (s.heap.update T f).get? b = s.heap.get? b := fun f b n => Heap.get?_update_other _ _ fun z => n z.symm
  have nr : ∀ b o, s.heap.get? b = some o → (∀ ws, o.data ≠ .fields ws) → b ≠ T := fun b o z nf y => by
    rw [y, hT] at z
    cases z
    exact nf ts dT
  have du := Obj.data_mapFields dT (·.setIfInBounds 3 (fr.elim Value.none fun f => rawInt f))
  refine wpAny_setField hT dT tz (q _ ⟨fun b o z => (ot _ b fun y => by rw [y, bT] at z; cases z).trans (st b o z), new, fr'.of_keeps fun b o z nf => ⟨o, (ot _ b (nr b o z nf)).trans z, rfl⟩, oe, vs, T, _, _, (ot _ e nT.symm).trans he, hc, hd, h2, h1, bT, nT, Heap.get?_update_self _ hT (Obj.isFreed_of_fields du), du, ?_⟩ fun b o z nf => ⟨o.slots, (ot _ b (nr b o z nf)).trans z⟩)
  rw [Array.getElem?_setIfInBounds_self_of_lt tz]
theorem leave_any (hfr : A.frames = some (env :: outer)) (hf : env.frame = some L) (F : Fly G B (env :: outer) e cls fl s.heap) (q : ∀ h', Fly G B outer e cls .none h' → s.heap.UpToSlots h' → Q () { s with heap := h' }) :
    wpAny M A (leaving env (.ref e)) Q E s := by
  obtain ⟨st, new, fr, oe, vs, T, oT, ts, he, hc, hd, h2, h1, bT, nT, hT, dT, h3⟩ := id F
  have tz : 3 < ts.size := (Array.getElem?_eq_some_iff.mp h3).1
  unfold leaving
  refine wpAny_bind ?_
  by_cases cf : fl = rawInt L
  · subst cf
    unfold noteFrame
    simp only [hf]
    refine wpAny_bind (wpAny_field he hd h1 ?_)
    rw [if_pos (by simp)]
    refine wpAny_bind (wpAny_field hT dT h3 ?_)
    rw [if_pos (by simp)]
    exact wpAny_pure (land_ok F fun h' F2 U2 => q h' F2.tail U2)
  · unfold noteFrame
    simp only [hf]
    refine wpAny_bind (wpAny_field he hd h1 ?_)
    rw [if_pos (by simp)]
    refine wpAny_bind (wpAny_field hT dT h3 ?_)
    rw [if_neg (by rw [beq_iff_eq]; exact cf)]
    refine wpAny_bind (wpAny_setField hT dT tz ?_)
    have ot : ∀ b, b ≠ T → (s.heap.update T (Obj.mapFields (·.setIfInBounds 3 Value.none))).get? b = s.heap.get? b := fun b n => Heap.get?_update_other _ _ fun z => n z.symm
    have nr : ∀ b o, s.heap.get? b = some o → (∀ ws, o.data ≠ .fields ws) → b ≠ T := fun b o z nf y => by
      rw [y, hT] at z
      cases z
      exact nf ts dT
    exact entry_ok hfr hf (fun b o z => (ot b fun y => by rw [y, bT] at z; cases z).trans (st b o z)) new (fr.of_keeps fun b o z nf => ⟨o, (ot b (nr b o z nf)).trans z, rfl⟩) ((ot e nT.symm).trans he) hc hd h2
      fun h' F' U => land_ok F' fun h2 F2 U2 => q h2 F2.tail fun b o z nf => by
        obtain ⟨sl, z2⟩ := U b o ((ot b (nr b o z nf)).trans z) nf
        obtain ⟨sl2, z3⟩ := U2 b _ z2 nf
        exact ⟨sl2, z3⟩
end
section
variable {X : Cx} {G : Value → Prop} {E : XK}
noncomputable def XEc (X : Cx) (G : Value → Prop) (E : XK) (Nc : List Str) (scope : Scope) (C : Addr) (s0 : Shared) (H0 : Hp) (fp : List Addr) : Value → Shared → Prop := fun e s' => ∃ pins σ H s, Inv (cxC X Nc scope C s0 H0 fp) pins σ H s ∧ CXG G X.prog X.w X.stack H s E e s'
theorem pe_callX {Nc : List Str} {scope : Scope} {C : Addr} {s0 : Shared} {H0 : Hp} {fp : List Addr} {k : Nat} {x : Str} {ps : List Str} {sp : Sp} {p pos : Pos} {e : Expr} {es : List Expr} {t : TA} (D : DfnG G X.prog X.w X.K X.mg X.base x k ps sp) (hr : Room k X.A) (hg : Gl (cxCE X Nc scope C s0 H0 fp (XEc X G E Nc scope C s0 H0 fp)) x) (ha : PA (cxCE X Nc scope C s0 H0 fp (XEc X G E Nc scope C s0 H0 fp)) (e :: es) t)
    (hdb : (x == ("__debug__" : Str)) = false := by decide +kernel) (he : starEach (e :: es) (cxCE X Nc scope C s0 H0 fp (XEc X G E Nc scope C s0 H0 fp)).env = (false, eval e (cxCE X Nc scope C s0 H0 fp (XEc X G E Nc scope C s0 H0 fp)).env) :: starEach es (cxCE X Nc scope C s0 H0 fp (XEc X G E Nc scope C s0 H0 fp)).env := by rfl) (hpl : (backTo pos (starEach es (cxCE X Nc scope C s0 H0 fp (XEc X G E Nc scope C s0 H0 fp)).env)).any (·.1) = false := by rfl) :
    PE (cxCE X Nc scope C s0 H0 fp (XEc X G E Nc scope C s0 H0 fp)) (.Call (.Name x p) (e :: es) [] pos) (tCall sp [] E t) := by
  obtain ⟨f, fd, hm, hk, hb, F⟩ := D
  exact pe_call F hr hg hm hk hb .nil (fun pins σ H s e s' I h => ⟨pins, σ, H, s, Inv.unwish (X := cxC X Nc scope C s0 H0 fp) I, h⟩) ha hdb he hpl
theorem comp_err {Nc : List Str} {scope : Scope} {fp : List Addr} {use : Option (Value → Sem Unit)} {Q : Value → Shared → Prop} {pins : List (Addr × Obj)} {σ : L2.St} (R : RXG G X E) (D C : Addr) (s0 : Shared) (H0 : Hp) (e : Value) (s' : Shared) (hC : X.s₀.heap.objs.size ≤ C) (nC : C ∉ frs X.stack)
    (cv : ∀ pins' σ' H' s'', Inv (cxCE X Nc scope C s0 H0 fp (XEc X G E Nc scope C s0 H0 fp)) pins' σ' H' s'' → Inv X pins σ H' s'') (hx : XEc X G E Nc scope C s0 H0 fp e s') :
    notedBy (model X.prog X.w) X.A X.env (fun e s'' => compPost (model X.prog X.w) X.A X.xe use Q (.ref D) C (.error e) s'') e s' := by
  obtain ⟨pinsY, σY, HY, sY, IY, hq⟩ := hx
  have IX := cv _ _ _ _ (IY.wish _)
  obtain ⟨x, Cc, B, H', rfl, ho, hg, un, hok, hx, hx', F, kb, q⟩ := hq
  have hst := R.st
  have hfra : X.A.frames = some (X.env :: X.outer) := by rw [← hst]; exact IX.ok.frames
  have F0 := F
  rw [hst] at F0
  refine note_on hfra R.fr F0 fun g1 F1 U1 => ?_
  obtain ⟨m, hNs, _⟩ := IY.loc
  obtain ⟨oC, es, ep, hoC, rC⟩ := id hNs
  have hoC : sY.heap.get? C = some oC := hoC
  have hCn : HY C = none := IY.free
  have c1 : s'.heap.get? C = some oC := un.keep C oC hoC hCn nC (by simp)
  have c2 : B.get? C = some oC := kb C oC c1 (.inl ⟨_, hoC⟩) nC
  have c3 : g1.get? C = some oC := F1.st C oC c2
  refine ⟨m, ⟨oC, es, ep, c3, rC⟩, fun h' sb cenv _ => ?_⟩
  have F2 := F1.but c2 (by rw [← hst]; exact nC) sb
  unfold PySem.passOn
  obtain ⟨oe, vs, T', oT, ts, he, _, hd, _, h1', _⟩ := F2.ex
  refine wpAny_bind (wpAny_field he hd h1' ?_)
  rw [if_neg (by simp)]
  refine wpAny_bind (flight_ok cenv.frame F2 fun g3 F3 U3 => wpAny_throw ?_)
  rw [R.xe]
  refine leave_any hfra R.fr F3 fun g4 F4 U4 => ?_
  refine cxe_end IX hst R.fr R.ex un hok hx hx' (fun b o z y n => ?_) F4 (fun b mb o z nf => ?_) q rfl ho hg
  · have nb : b ∉ [C] := fun y2 => by
      have y2 : b = C := by simpa using y2
      subst y2
      rcases y with ⟨u, y⟩ | ⟨u, y⟩
      · exact absurd (Nat.lt_of_lt_of_le (Heap.lt_size y) hC) (Nat.lt_irrefl _)
      · have := un.free b oC hoC hCn (by simp)
        rw [this] at y
        cases y
    exact PySem.W.hideAll_get _ (kb b o z (y.imp (fun ⟨u, w⟩ => IX.base.there b u w (by rw [R.ex]; simp)) id) n) nb
  · have bC : b ≠ C := fun y => nC (by rw [hst]; exact List.mem_filterMap.mpr (by obtain ⟨e, he, hb⟩ := List.mem_filterMap.mp mb; exact ⟨e, .tail _ he, y ▸ hb⟩))
    obtain ⟨sl1, z1⟩ := U1 b o z nf
    have z2 := (sb.2 b bC).trans z1
    obtain ⟨sl3, z3⟩ := U3 b _ z2 nf
    obtain ⟨sl4, z4⟩ := U4 b _ z3 nf
    exact ⟨sl4, z4⟩
theorem ps_setCompE {elt target iter : Expr} {ifs : List Expr} {scope : Scope} {pos spos py : Pos} {cap : List (Nat × Str)} {own : List Str} {wi : TI} {g : TG} {tc : TT} {te : TE} {i : Nat} {y : Str} (R : RXG G X E) (hc : X.calm = true) (O : CompOk X scope cap own) (hN : X.N.Nodup) (hiN : X.N[i]? = some y) (hy : Loc X.env.scope y)
    (hi : PI X target iter wi)
    (hb : ∀ (C : Addr) (s0 : Shared) (H0 : Hp) (fp : List Addr), PG (cxCE X (cap.map (·.2) ++ own) scope C s0 H0 fp (XEc X G E (cap.map (·.2) ++ own) scope C s0 H0 fp)) target g ∧ PF (cxCE X (cap.map (·.2) ++ own) scope C s0 H0 fp (XEc X G E (cap.map (·.2) ++ own) scope C s0 H0 fp)) ifs tc ∧ PE (cxCE X (cap.map (·.2) ++ own) scope C s0 H0 fp (XEc X G E (cap.map (·.2) ++ own) scope C s0 H0 fp)) elt te)
    (hsw : swapsWith (.ListComp elt [⟨target, iter, ifs, 0⟩] scope pos) (some (.Name y py)) spos.line X.env = pure true := by rfl)
    (hs : ∀ x, foldedSetIterable iter X.env x = pure x := by intro _; rfl) (hf : X.fn y = true ∨ X.env.scope.names.lookup y = some .local := by first | exact .inl rfl | exact .inr rfl | assumption) :
    PS X (.Assign [.Name y py] (.ListComp elt [⟨target, iter, ifs, 0⟩] scope pos) spos) (tAsg (tComp cap own.length wi g tc te) (gName i)) := by
  intro pins s σ H D I h
  rw [exec_Assign_Name_used _ _ _ _ hsw]
  refine wpAny_bind (wpAny_standAt (wpAny_bind ?_))
  show wpAny _ X.A (do let _ ← comprehension (.ListComp elt [⟨target, iter, ifs, 0⟩] scope pos) scope X.env _ (newList []) false (eval iter X.env) (some (assign (.Name y py) X.env))) _ _ s
  have hclos : closureFor scope X.env = pure (compCl X.env.cells scope.names []) := closureFor_cl fun y hy hf => I.ok.has y.1 (.inl (O.free y hy hf).1)
  refine wpAny_bind (wpAny_mono (wpAny_comprehension_free (use := some (assign (.Name y py) X.env)) (Q := fun _ s' => SP X pins D .next s') rfl hs hclos O.kind O.names
    (thn (hi pins s σ H _ I h) fun v s1 h1 => thn h1 fun itv s2 h2 => ?_)) (fun _ s' hq => wpAny_pure (wpAny_pure hq)) fun _ _ e => e)
  obtain ⟨it, fp, tn, J, H2, rfl, I2, T, st2, f2, hR⟩ := h2
  refine comp_core (Qe := fun x H1 => gName i x σ H1 D.nx) (RR := fun acc C => compPost (model X.prog X.w) X.A X.xe (some (assign (.Name y py) X.env)) (fun _ s' => SP X pins D .next s') acc C) (Z := fun Y => Y.calm = true) (XE := fun C s0 H0 => XEc X G E (cap.map (·.2) ++ own) scope C s0 H0 fp) (fun _ _ _ _ _ => hc) O (fun C s0 H0 => hb C s0 H0 fp) I2 T.toZ st2 f2 hR (fun D C s0 H0 e s' hC nC cv hx => comp_err R D C s0 H0 e s' hC nC cv hx) ?_
  intro Da C s4 m H' I4 hn fC q
  obtain ⟨z0, z1, z2, z3, z4, z5⟩ := fC
  show wpAny _ X.A (assign (.Name y py) X.env (.ref Da)) _ _ _
  refine wpAny_assign_Name (store_ok2 I4 hN hiN hy (v := .ref Da) rfl (fun s5 I5 ⟨a, sb, ha⟩ => ?_) hf)
  have hCa : C ≠ a := by
    rcases ha with e | e
    · rw [e]; exact z1
    · exact fun z => z4 y a e z.symm
  refine ⟨m, hn.sameBut sb hCa, fun h' hs' => ⟨_, H', I5.turned (t' := s5.toks) (fun b o hb' e => hs'.extBut b o hb' e) z0 z1 z3 z4 z5, q⟩⟩
end
theorem comp_fil5 {J : It} {n : Nat} {cap : List (Nat × Str)} {own : Nat} {g : TG} {tc : TT} {te : TE} {σ : St} {H : Hp} {Q : Addr → Hp → Prop} (c : Nat → Bool) (f : Nat → V) (hn : n ≤ 5000)
    (go : ∀ i H', Same H H' → i < n → J.go i H') (stop : ∀ H', Same H H' → J.stop n H')
    (turn : ∀ i x H' H1 (Q1 : V → Hp → Prop) (Q2 : Hp → Prop), i < n → Same H H' → J.yld i H' x H1 → (c i = true → ∀ H4, Same H' H4 → Q1 (f i) H4) → (c i = false → ∀ H3, Same H' H3 → Q2 H3) →
      g x (blk cap own σ) H1 fun σ2 H2 => (σ2.take cap.length = capσ cap σ ∧ σ2.length = cap.length + own) ∧ tc σ2 H2 fun b H3 => if b = true then te σ2 H3 Q1 else Q2 H3)
    (done : ∀ D H', H D = none → Same H H' → H' D = some (.lst (((List.range n).filter c).map f)) → Q D H') :
    ∀ D, H D = none → ∃ W : Nat → Nat → List V → Hp → Prop, (∃ m, W 0 m [] (upd H D (.lst []))) ∧ ∀ i m ys H, W i m ys H → H D = some (.lst ys) ∧
      ((J.stop i H ∧ Q D H) ∨ (J.go i H ∧ ∀ x H', J.yld i H x H' → g x (blk cap own σ) H' fun σ2 H2 =>
        (σ2.take cap.length = capσ cap σ ∧ σ2.length = cap.length + own) ∧ tc σ2 H2 fun b H3 =>
          if b = true then te σ2 H3 fun v H4 => H4 D = some (.lst ys) ∧ ys.length < sizeLine ∧ ∃ m', m' < m ∧ W (i + 1) m' (ys ++ [v]) (upd H4 D (.lst (ys ++ [v])))
          else ∃ m', m' < m ∧ W (i + 1) m' ys H3)) := by
  intro D hD
  refine ⟨fun i m ys H' => m = n - i ∧ i ≤ n ∧ Same H H' ∧ H' D = some (.lst ys) ∧ ys = ((List.range i).filter c).map f, ⟨n, by simp, Nat.zero_le _, Same.upd hD, upd_same, rfl⟩, ?_⟩
  rintro i m ys H' ⟨rfl, hi, s, hd, rfl⟩
  refine ⟨hd, ?_⟩
  by_cases hlt : i < n
  · refine .inr ⟨go i H' s hlt, fun x H1 y => turn i x H' H1 _ _ hlt s y (fun hc H4 s4 => ?_) (fun hc H3 s3 => ?_)⟩
    · have hl : (((List.range i).filter c).map f).length ≤ i := by
        rw [List.length_map]
        exact Nat.le_trans (List.length_filter_le _ _) (by simp)
      refine ⟨s4 _ _ hd, (show _ < sizeLine by rw [sizeLine_eq]; omega), n - (i + 1), by omega, rfl, hlt, (s.trans s4).upd' hD, upd_same, ?_⟩
      rw [List.range_succ, List.filter_append, List.map_append]
      simp [hc]
    · refine ⟨n - (i + 1), by omega, rfl, hlt, s.trans s3, s3 _ _ hd, ?_⟩
      rw [List.range_succ, List.filter_append, List.map_append]
      simp [hc]
  · have e : i = n := by omega
    subst e
    exact .inl ⟨stop H' s, done D H' hD s hd⟩
theorem comp_tupsG {J : It} {n : Nat} {cap : List (Nat × Str)} {own : Nat} {g : TG} {tc : TT} {te : TE} {σ : St} {H : Hp} {Q : Addr → Hp → Prop} (F : Nat → List V → Prop) (hn : n ≤ 5001)
    (go : ∀ i H', Same H H' → i < n → J.go i H') (stop : ∀ H', Same H H' → J.stop n H')
    (turn : ∀ i x H' H1 (Q1 : V → Hp → Prop) (Q2 : Hp → Prop), i < n → Same H H' → J.yld i H' x H1 → (∀ u vs H4, Same H' H4 → H4 u = some (.tup vs) → F i vs → Q1 (.ref u) H4) →
      g x (blk cap own σ) H1 fun σ2 H2 => (σ2.take cap.length = capσ cap σ ∧ σ2.length = cap.length + own) ∧ tc σ2 H2 fun b H3 => if b = true then te σ2 H3 Q1 else Q2 H3)
    (done : ∀ D ys H', H D = none → Same H H' → H' D = some (.lst ys) → ys.length = n → TupsV F H' ys → Q D H') :
    ∀ D, H D = none → ∃ W : Nat → Nat → List V → Hp → Prop, (∃ m, W 0 m [] (upd H D (.lst []))) ∧ ∀ i m ys H, W i m ys H → H D = some (.lst ys) ∧
      ((J.stop i H ∧ Q D H) ∨ (J.go i H ∧ ∀ x H', J.yld i H x H' → g x (blk cap own σ) H' fun σ2 H2 =>
        (σ2.take cap.length = capσ cap σ ∧ σ2.length = cap.length + own) ∧ tc σ2 H2 fun b H3 =>
          if b = true then te σ2 H3 fun v H4 => H4 D = some (.lst ys) ∧ ys.length < sizeLine ∧ ∃ m', m' < m ∧ W (i + 1) m' (ys ++ [v]) (upd H4 D (.lst (ys ++ [v])))
          else ∃ m', m' < m ∧ W (i + 1) m' ys H3)) := by
  intro D hD
  refine ⟨fun i m ys H' => m = n - i ∧ i ≤ n ∧ Same H H' ∧ H' D = some (.lst ys) ∧ ys.length = i ∧ TupsV F H' ys, ⟨n, rfl, Nat.zero_le _, Same.upd hD, upd_same, rfl, fun k x e => nomatch e⟩, ?_⟩
  rintro i m ys H' ⟨rfl, hi, s, hd, yl, hy⟩
  refine ⟨hd, ?_⟩
  by_cases hlt : i < n
  · refine .inr ⟨go i H' s hlt, fun x H1 y => turn i x H' H1 _ _ hlt s y fun u vs H4 s4 hu hF => ?_⟩
    have hd4 := s4 _ _ hd
    have nD : D ≠ u := ne_of hd4 hu (by intro z; cases z)
    refine ⟨hd4, (show _ < sizeLine by rw [sizeLine_eq]; omega), n - (i + 1), by omega, rfl, hlt, (s.trans s4).upd' hD, upd_same, by rw [List.length_append, yl]; rfl, fun k z e => ?_⟩
    by_cases c : k < ys.length
    · rw [List.getElem?_append_left c] at e
      obtain ⟨t, ws, e1, e2, e3⟩ := hy k z e
      have m1 : t ≠ D := fun e => by rw [e, hd] at e2; cases e2
      have z4 := s4 _ _ e2
      exact ⟨t, ws, e1, by rw [upd_ne m1]; exact z4, e3⟩
    · have hk : k < (ys ++ [V.ref u]).length := (List.getElem?_eq_some_iff.mp e).1
      rw [List.length_append] at hk
      have ek : k = ys.length := Nat.le_antisymm (Nat.le_of_lt_succ hk) (Nat.not_lt.mp c)
      rw [ek, List.getElem?_append_right (Nat.le_refl _), Nat.sub_self] at e
      cases e
      exact ⟨u, vs, rfl, by rw [upd_ne nD.symm]; exact hu, by rw [ek, yl]; exact hF⟩
  · have e : i = n := Nat.le_antisymm hi (Nat.not_lt.mp hlt)
    subst e
    exact .inl ⟨stop H' s, done D ys H' hD s hd yl hy⟩
end L2

set_option genSizeOf false
set_option genInjectivity false
namespace Fk
open PySem L2 Fm PyProof.Rows
theorem atI_cast {α : Type} {xs : List α} {i : Int} {j : Nat} {v : α} (e : i = (j : Int)) (h : xs[j]? = some v) : atI xs i = some v := by
  rw [e]
  exact atI_nat h
theorem dec_ints {i j : Int} : decide (V.int i = V.int j) = decide (i = j) := by
  rw [dec_int, Bool.beq_eq_decide_eq]
theorem RowV.snoc {H : Hp} {xs : List V} {r : Row} {v : V} {p : Int × Int} (h : RowV H xs r) (t : TupP H v p) : RowV H (xs ++ [v]) (r ++ [p]) := Paired.snoc h t
theorem len_ok {n : Nat} (h : n ≤ 1000) : n < sizeLine := small1000 h
theorem two_ok : 2 ≤ sizeLine := by decide
theorem Good.snoc {r : Row} (g : Good r) {p h : Int} (hp : ∀ i : Nat, i < r.length → pl r i < p) (hh : 1 ≤ h) : Good (r ++ [(p, h)]) where
  rise := fun i j h1 h2 => by
    rw [List.length_append, List.length_singleton] at h2
    have ei : pl (r ++ [(p, h)]) i = pl r i := by
      unfold pl
      rw [List.getD_eq_getElem?_getD, List.getD_eq_getElem?_getD, List.getElem?_append_left (by omega)]
    rw [ei]
    by_cases hj : j < r.length
    · have ej : pl (r ++ [(p, h)]) j = pl r j := by
        unfold pl
        rw [List.getD_eq_getElem?_getD, List.getD_eq_getElem?_getD, List.getElem?_append_left hj]
      rw [ej]
      exact g.rise i j h1 hj
    · have e : j = r.length := by omega
      subst e
      have ej : pl (r ++ [(p, h)]) r.length = p := by
        unfold pl
        rw [List.getD_eq_getElem?_getD, List.getElem?_append_right (Nat.le_refl _)]
        simp
      rw [ej]
      exact hp i (by omega)
  high := fun i h1 => by
    rw [List.length_append, List.length_singleton] at h1
    by_cases hi : i < r.length
    · have ei : ht (r ++ [(p, h)]) i = ht r i := by
        unfold ht
        rw [List.getD_eq_getElem?_getD, List.getD_eq_getElem?_getD, List.getElem?_append_left hi]
      rw [ei]
      exact g.high i hi
    · have e : i = r.length := by omega
      subst e
      have ej : ht (r ++ [(p, h)]) r.length = h := by
        unfold ht
        rw [List.getD_eq_getElem?_getD, List.getElem?_append_right (Nat.le_refl _)]
        simp
      rw [ej]
      exact hh
theorem pl_snoc_lt {r : Row} {p h : Int} {i : Nat} (hi : i < r.length) : pl (r ++ [(p, h)]) i = pl r i := by
  unfold pl
  rw [List.getD_eq_getElem?_getD, List.getD_eq_getElem?_getD, List.getElem?_append_left hi]
theorem pl_snoc_eq {r : Row} {p h : Int} : pl (r ++ [(p, h)]) r.length = p := by
  unfold pl
  rw [List.getD_eq_getElem?_getD, List.getElem?_append_right (Nat.le_refl _)]
  simp
noncomputable def spLaw (K : PySem.W.Frag) : Sp := fun vs H Q _ => ∃ (a : Addr) (ns : List Int), vs = [.ref a] ∧ SqL K H a (ns.map V.int) ∧ ns.length ≤ 63 ∧ ∀ H', Q (.bl true) H'
theorem zero_ok : 0 ≤ sizeLine := Nat.zero_le _
end Fk

set_option genSizeOf false
set_option genInjectivity false
namespace Fk
open PySem L2 Fm PyProof.Rows
section
variable {P : Program} {w : World} {K : PySem.W.Frag} {mg : Str → Option Value} {base : Heap}
noncomputable def spRow (K : PySem.W.Frag) : Sp := fun vs H Q _ => ∃ (a : Addr) (ns : List Int), vs = [.ref a] ∧ SqL K H a (ns.map V.int) ∧ ns.length ≤ 63 ∧ ∀ l H' r, H l = none → Same H H' → RowAt H' l r → Good r → r.length = ns.length → (∀ p ∈ r, p.1.natAbs < 10 ^ 30 ∧ p.2.natAbs < 10 ^ 30) → Q (.ref l) H'
theorem scRow : FnScope ["_law_script", "_law_code", "_law_apart", "_law_high", "_law_place", "_law_found", "_law_cell"] ["_law_script"] (defScope sRow) := ⟨rfl, rfl, rfl, by decide +kernel, rfl, by decide +kernel, by decide +kernel⟩
theorem ok_row {f : Addr} {fd : FuncData} (F : Fun K "_law_row" "_law_row" sRow f fd) (B : Blt mg) : FnOk P w K mg base CX0 1 f fd ["_law_script"] (spRow K) := by
  refine F.ok scRow (fun vs H Q E h => ?_) (fun cdv A outer s H vs Q E hr h => ?_)
  · obtain ⟨a, ns, rfl, _⟩ := h
    rfl
  · obtain ⟨a, ns, rfl, hS, hn, q⟩ := h
    refine ⟨_, (pss_cons (ps_set (i := 1) scRow.nd rfl (Or.inl rfl) (pe_callB (call_sumI rfl) (by rfl) B.b_sum boot_sum (pa_cons (pv 0) pa_nil)))
      (@pss_cons _ _ _ _ _ (@ps_asg _ _ _ _ _ _ (@pe_ix _ _ _ _ _ _ _ ix_tup (@pe_tup4 _ _ _ _ _ _ _ _ _ _ _ _ _ _ _ _ _ _ _ (@pe_pairC _ _ _ _ _ _ _ _ _) (@pe_pairC _ _ _ _ _ _ _ _ _) (@pe_pairP _ _ _ _ _ _ _ _ _ _ _ _ _ _ _ _ _) (@pe_pairC _ _ _ _ _ _ _ _ _)) (pe_op op_mod (pv 1) pe_int) (fun _ _ => rfl)) (pg_tup rfl (pgs_cons (pg_name (i := 2) scRow.nd rfl (Or.inl rfl)) (pgs_cons (pg_name (i := 3) scRow.nd rfl (Or.inl rfl)) pgs_nil))) (by rfl) (by rfl) (by rfl))
      (pss_cons (ps_set (i := 4) scRow.nd rfl (Or.inl rfl) (pe_un un_neg (pe_op op_mod (pe_op op_fdivB (pv 1) pe_int) pe_int)))
      (pss_cons (ps_set (i := 5) scRow.nd rfl (Or.inl rfl) (pe_lst pa_nil))
      (pss_cons (ps_for PassesOwn.never rfl (pi_list (pv 0)) (pg_name (i := 6) scRow.nd rfl (Or.inl rfl))
        (pss_cons (ps_set (i := 4) scRow.nd rfl (Or.inl rfl) (pe_op op_add (pe_op op_add (pv 4) pe_int) (pe_op op_mod (pv 6) (pv 2))))
        (pss_one (ps_expr (pe_bm PySem.F.plainAttrs_list PySem.F.slot_list_append PySem.F.type_list_append mt_append (pv 5) (pa_cons (pe_tup (pa_cons (pv 4) (pa_cons (pe_op op_add pe_int (pe_op op_mod (pe_op op_add (pe_op op_fdivB (pv 6) (pv 2)) (pe_op op_fdivB (pv 6) pe_int)) (pv 3))) pa_nil))) pa_nil))))))
      (pss_one (ps_ret (pv 5)))))))), ?_⟩
    refine ⟨_, rfl, a, ns, rfl, hS, ?_⟩
    -- the table
    refine ⟨two_ok, fun p1 n1 => ⟨two_ok, fun p2 n2 => ⟨_, _, rfl, rfl, ⟨by decide, by decide, by decide⟩, _, _, rfl, rfl, ⟨by decide, by decide, by decide⟩, two_ok, fun p3 n3 => ⟨two_ok, fun p4 n4 => ⟨by show 4 ≤ sizeLine; decide, fun p n => ?_⟩⟩⟩⟩⟩
    generalize hH5 : upd (upd (upd (upd (upd H p1 (.tup [.int 3, .int 4])) p2 (.tup [.int 9, .int 12])) p3 (.tup [.int (10 ^ (20 : Int).toNat), .int (10 ^ (20 : Int).toNat)])) p4 (.tup [.int 6, .int 4])) p (.tup [.ref p1, .ref p2, .ref p3, .ref p4]) = H5
    have sm : Same H H5 := by
      rw [← hH5]
      exact (((((Same.upd n1).trans (Same.upd n2)).trans (Same.upd n3)).trans (Same.upd n4)).trans (Same.upd n))
    have hp5 : H5 p = some (.tup [.ref p1, .ref p2, .ref p3, .ref p4]) := by rw [← hH5, upd_same]
    obtain ⟨t, ap, hi, et, ht5, a0, a1, h0, a2, h2⟩ : ∃ (t : Addr) (ap hi : Int), atI [V.ref p1, V.ref p2, V.ref p3, V.ref p4] (ns.sum % 4) = some (.ref t) ∧ H5 t = some (.tup [.int ap, .int hi]) ∧ 0 < ap ∧ ap < 2 ^ 200 ∧ 0 < hi ∧ ap ≤ 10 ^ 20 ∧ hi ≤ 10 ^ 20 := by
      have s4 : Same (upd (upd (upd (upd H p1 (.tup [.int 3, .int 4])) p2 (.tup [.int 9, .int 12])) p3 (.tup [.int (10 ^ (20 : Int).toNat), .int (10 ^ (20 : Int).toNat)])) p4 (.tup [.int 6, .int 4])) H5 := by rw [← hH5]; exact Same.upd n
      have s3 := (Same.upd n4).trans s4
      have s2 := (Same.upd n3).trans s3
      have s1 := (Same.upd n2).trans s2
      have c : ns.sum % 4 = 0 ∨ ns.sum % 4 = 1 ∨ ns.sum % 4 = 2 ∨ ns.sum % 4 = 3 := by omega
      rcases c with c | c | c | c <;> rw [c]
      · exact ⟨p1, 3, 4, rfl, s1 _ _ upd_same, by decide, by decide, by decide, by decide, by decide⟩
      · exact ⟨p2, 9, 12, rfl, s2 _ _ upd_same, by decide, by decide, by decide, by decide, by decide⟩
      · exact ⟨p3, _, _, rfl, s3 _ _ upd_same, by decide, by decide, by decide, by decide, by decide⟩
      · exact ⟨p4, 6, 4, rfl, s4 _ _ upd_same, by decide, by decide, by decide, by decide, by decide⟩
    refine ⟨_, rfl, _, _, rfl, rfl, (by show (0 : Int) < 4; decide), p, _, _, _, rfl, rfl, SqT.of hp5, et, t, _, rfl, SqT.of ht5, rfl, _, _, rfl, _, _, rfl, rfl, ?_⟩
    -- the first place
    refine ⟨_, rfl, _, _, rfl, rfl, ⟨by decide, by decide⟩, _, _, rfl, rfl, (by show (0 : Int) < 90; decide), _, rfl, ?_⟩
    -- found = []
    refine ⟨(by show 0 ≤ sizeLine; decide), fun l hl => ?_⟩
    have nl : H l = none := sm.none hl
    -- the loop
    refine ⟨_, rfl, a, rfl, ⟨_, (sm.trans (Same.upd hl)).seq hS⟩, for_list (K := K) (a := a) (xs := ns.map V.int) (fun i σ H2 => ∃ (r : Row) (xs : List V) (c : Int) (v : Option V), σ = [some (.ref a), some (.int ns.sum), some (.int ap), some (.int hi), some (.int c), some (.ref l), v] ∧ Same H H2 ∧ H2 l = some (.lst xs) ∧ RowV H2 xs r ∧ Good r ∧ r.length = i ∧ (∀ k : Nat, k < r.length → pl r k ≤ c) ∧ (-90 ≤ c ∧ c ≤ (i : Int) * (10 ^ 20 + 1)) ∧ ∀ p ∈ r, p.1.natAbs < 10 ^ 30 ∧ p.2.natAbs < 10 ^ 30)
      ⟨[], [], _, none, rfl, sm.trans (Same.upd hl), upd_same, .nil, ⟨fun i j h1 h2 => absurd h2 (by simp), fun i h1 => absurd h1 (by simp)⟩, rfl, fun k h1 => absurd h1 (by simp), ⟨by omega, by omega⟩, fun p hp => absurd hp (by simp)⟩ (fun i σ H2 _ ⟨_, _, _, _, _, s2, _⟩ => s2.seq hS) ?_ ?_⟩
    · rintro i y σ H2 hi' ⟨r, xs, c, v, rfl, s2, hx, hrow, g, hrl, hc, hcb, hsm⟩
      have hil : i < (ns.map V.int).length := (List.getElem?_eq_some_iff.mp hi').1
      rw [List.length_map] at hil
      obtain ⟨z, rfl⟩ : ∃ z, y = V.int z := by
        rw [List.getElem?_map] at hi'
        cases e : ns[i]? with
        | none => rw [e] at hi'; cases hi'
        | some z => rw [e] at hi'; exact ⟨z, (Option.some.inj hi').symm⟩
      refine ⟨_, rfl, _, _, rfl, rfl, _, rfl, _, rfl, _, _, rfl, rfl, a0, _, _, rfl, rfl, ?_⟩
      refine ⟨_, rfl, .inl ⟨rfl, _, SqL.of hx⟩, _, rfl, _, rfl, _, rfl, _, _, rfl, rfl, ⟨a0, a1⟩, _, rfl, _, _, rfl, rfl, ⟨by decide, by decide⟩, _, _, rfl, rfl, _, rfl, _, _, rfl, rfl, h0, _, _, rfl, rfl, two_ok, fun u hu => ?_⟩
      have nlu : l ≠ u := ne_of_none hx hu
      have xl : xs.length = i := by rw [hrow.length, hrl]
      refine ⟨l, xs, _, rfl, rfl, by rw [upd_ne nlu]; exact hx, len_ok (by omega), ?_⟩
      refine ⟨r ++ [(c + 1 + z % ap, 1 + (z / ap + z / 11) % hi)], xs ++ [.ref u], c + 1 + z % ap, _, rfl, (s2.trans (Same.upd hu)).upd' nl, upd_same, ?_, ?_, by rw [List.length_append, hrl]; rfl, ?_, ?_, ?_⟩
      · refine RowV.snoc ?_ ⟨u, rfl, by rw [upd_ne nlu.symm, upd_same]⟩
        refine Paired.mapP hrow fun v z ⟨t', z1, z2⟩ => ⟨t', z1, ?_⟩
        have m1 : t' ≠ l := fun e => by rw [e, hx] at z2; cases z2
        rw [upd_ne m1, upd_ne (ne_of_none z2 hu)]
        exact z2
      · refine Good.snoc g (fun k hk => ?_) ?_
        · have := hc k hk
          have := Int.emod_nonneg z (show ap ≠ 0 by omega)
          omega
        · have := Int.emod_nonneg (z / ap + z / 11) (show hi ≠ 0 by omega)
          omega
      · intro k hk
        have em := Int.emod_nonneg z (show ap ≠ 0 by omega)
        rw [List.length_append, List.length_singleton] at hk
        by_cases hk2 : k < r.length
        · rw [pl_snoc_lt hk2]
          have := hc k hk2
          omega
        · have e : k = r.length := by omega
          subst e
          rw [pl_snoc_eq]
          exact Int.le_refl _
      · have em := Int.emod_nonneg z (show ap ≠ 0 by omega)
        have el := Int.emod_lt_of_pos z a0
        have e2 : ((i + 1 : Nat) : Int) * (10 ^ 20 + 1) = (i : Int) * (10 ^ 20 + 1) + (10 ^ 20 + 1) := by rw [Int.natCast_add, Int.add_mul]; rfl
        rw [e2]
        generalize (i : Int) * (10 ^ 20 + 1) = w at hcb ⊢
        omega
      · have em := Int.emod_nonneg z (show ap ≠ 0 by omega)
        have el := Int.emod_lt_of_pos z a0
        have fm := Int.emod_nonneg (z / ap + z / 11) (show hi ≠ 0 by omega)
        have fl := Int.emod_lt_of_pos (z / ap + z / 11) h0
        have ib : (i : Int) * (10 ^ 20 + 1) ≤ 63 * (10 ^ 20 + 1) := Int.mul_le_mul_of_nonneg_right (by omega) (by decide)
        intro p hp
        rcases List.mem_append.mp hp with hp | hp
        · exact hsm p hp
        · have e : p = (c + 1 + z % ap, 1 + (z / ap + z / 11) % hi) := by simpa using hp
          subst e
          generalize (i : Int) * (10 ^ 20 + 1) = w at hcb ib
          generalize (z / ap + z / 11) % hi = v at fm fl ⊢
          generalize z % ap = u at em el ⊢
          show (c + 1 + u).natAbs < 10 ^ 30 ∧ (1 + v).natAbs < 10 ^ 30
          omega
    · rintro σ H2 ⟨r, xs, c, v, rfl, s2, hx, hrow, g, hrl, hc, hcb, hsm⟩
      rw [List.length_map] at hrl
      exact ⟨_, rfl, q l H2 r nl s2 ⟨xs, hx, hrow⟩ g hrl hsm⟩
end
end Fk

set_option genSizeOf false
set_option genInjectivity false
namespace Fk
open PySem L2 Fm PyProof.Rows
structure ClsK7 (K : PySem.W.Frag) (C eF eR eS eD eT : Addr) (k : Int) : Prop where
  ex : ExcK K C
  hF : PySem.W.exmOne K (.ref C) (.ref eF) = some true
  tR : PySem.W.kitOne K (.ref C) (.ref eR) = some (decide (k = 0))
  tT : PySem.W.kitOne K (.ref C) (.ref eT) = some (decide (k = 1))
  tD : PySem.W.kitOne K (.ref C) (.ref eD) = some false
  tS : PySem.W.kitOne K (.ref C) (.ref eS) = some false
structure Ex7 (K : PySem.W.Frag) (mg : Str → Option Value) (eF eR eS eD eT : Addr) : Prop where
  gF : mg "FallError" = some (.ref eF)
  gR : mg "BadRow" = some (.ref eR)
  gS : mg "BadStone" = some (.ref eS)
  gD : mg "BadSide" = some (.ref eD)
  gT : mg "BadText" = some (.ref eT)
  kR : ClsK7 K eR eF eR eS eD eT 0
  kT : ClsK7 K eT eF eR eS eD eT 1
  hR : PySem.W.exmOne K (.ref eR) (.ref eR) = some true
theorem one_ok : 1 ≤ sizeLine := by decide
section
variable {P : Program} {w : World} {K : PySem.W.Frag} {mg : Str → Option Value} {base : Heap} {eF eR eS eD eT : Addr} {G : Value → Prop}
noncomputable def spCk7 (eR : Addr) : Sp := fun vs H Q E => ∃ a r, vs = [.ref a] ∧ RowAt H a r ∧ r.length ≤ 5000 ∧ (Good r → Q .non H) ∧ (¬ Good r → ∀ x, H x = none → E (.ref eR) (some x) H)
theorem scCk7 : FnScope ["row", "stone", "k"] ["row"] (defScope sChkRow) := ⟨rfl, rfl, rfl, by decide +kernel, rfl, by decide +kernel, by decide +kernel⟩
theorem ok_ck7 {f : Addr} {fd : FuncData} (F : Fun K "check_row" "check_row" sChkRow f fd) (B : Blt mg) (T : Ex7 K mg eF eR eS eD eT) (d_is_stone : Dfn P w K mg base "is_stone" 2 ["value"] spStone) : FnOk P w K mg base (CXE P w) 3 f fd ["row"] (spCk7 eR) := by
  refine F.okE scCk7 (fun vs H Q E h => ?_) (fun cdv A outer s H vs Q E hr R h => ?_)
  · obtain ⟨a, r, rfl, _⟩ := h
    rfl
  · obtain ⟨a, r, rfl, ⟨xs, ha, hx⟩, hle, q1, q2⟩ := h
    have hlen := hx.length
    refine ⟨_, (pss_cons (ps_if (pt_not (pt_val (pe_callB (call_isiK K rfl) (by rfl) B.b_isinstance boot_isinstance (pa_cons (pv 0) (pa_cons (pe_bltn (v := .ty "list") rfl B.b_list boot_list rfl) pa_nil)))))
        (pss_one (ps_raiseE R T.gR T.kR.ex (by rfl) hr.hd (pa_cons pe_str pa_nil)))
        pss_nil)
      (pss_cons (ps_for PassesOwn.leaving rfl (pi_list (pv 0)) (pg_name (i := 1) scCk7.nd rfl (Or.inl rfl))
        (pss_one (ps_if (pt_not (pt_val (pe_callD d_is_stone (hr.mono (by decide)) (by rfl) (pa_cons (pv 1) pa_nil))))
          (pss_one (ps_raiseE R T.gR T.kR.ex (by rfl) hr.hd (pa_cons pe_str pa_nil)))
          pss_nil)))
      (pss_one (ps_for PassesOwn.leaving rfl (pi_range2 rfl B.b_range (pa_cons pe_int (pa_cons (pe_callB (call_len_seqK K rfl) (by rfl) B.b_len boot_len (pa_cons (pv 0) pa_nil)) pa_nil))) (pg_name (i := 2) scCk7.nd rfl (Or.inl rfl))
        (pss_one (ps_if (pt_cmpR op_le (pe_ix (ix_tupK K rfl) (pe_ix (ix_listK K rfl) (pv 0) (pv 2) (fun _ _ => rfl)) pe_int (fun _ _ => rfl)) (pe_ix (ix_tupK K rfl) (pe_ix (ix_listK K rfl) (pv 0) (pe_op op_sub (pv 2) pe_int) (fun _ _ => rfl)) pe_int (fun _ _ => rfl)) (nomark _))
          (pss_one (ps_raiseE R T.gR T.kR.ex (by rfl) hr.hd (pa_cons pe_str pa_nil)))
          pss_nil)))))), ?_⟩
    refine ⟨_, rfl, _, _, _, true, rfl, TyOf.lst ha, kitB (by decide +kernel), _, rfl, iteF ?_⟩
    refine ⟨_, rfl, a, rfl, ⟨_, SqL.of ha⟩, for_list (K := K) (a := a) (xs := xs) (fun i σ H2 => (∃ v, σ = [some (.ref a), v, none]) ∧ H2 = H ∧ ∀ j, j < i → 1 ≤ ht r j) ⟨⟨none, rfl⟩, rfl, fun j z => absurd z (by omega)⟩ (fun i σ H2 _ ⟨_, e, _⟩ => e ▸ SqL.of ha) ?_ ?_⟩
    · rintro i y σ H2 hi ⟨⟨v, rfl⟩, rfl, so⟩
      obtain ⟨p, e1, t, rfl, e2⟩ := paired_get hx i hi
      have hi' : i < r.length := (List.getElem?_eq_some_iff.mp e1).1
      have hti : ht r i = p.2 := by
        unfold ht
        rw [List.getD_eq_getElem?_getD, e1]
        rfl
      refine ⟨_, rfl, t, p.1, p.2, rfl, e2, _, rfl, ?_⟩
      by_cases c : 1 ≤ p.2
      · refine iteNS c ⟨⟨_, rfl⟩, rfl, fun j z => ?_⟩
        by_cases ej : j = i
        · subst ej
          rw [hti]
          exact c
        · exact so j (by omega)
      · rw [decide_eq_false c]
        exact iteT ⟨one_ok, q2 fun g => c (by rw [← hti]; exact g.high i hi')⟩
    · rintro σ H2 ⟨⟨v, rfl⟩, rfl, so⟩
      have so : ∀ j, j < r.length → 1 ≤ ht r j := fun j z => so j (by omega)
      refine ⟨_, rfl, a, xs, rfl, .inl (SqL.of ha), 1, (xs.length : Int), rfl, ⟨by decide, by decide, by omega, by omega⟩, for_range (fun i σ H3 => (∃ v u, σ = [some (.ref a), v, u]) ∧ H3 = H2 ∧ ∀ j, j < i → pl r j < pl r (j + 1)) ⟨⟨v, none, rfl⟩, rfl, fun j z => absurd z (by omega)⟩ ?_ ?_⟩
      · rintro i σ H3 hi ⟨⟨v, u, rfl⟩, rfl, ri⟩
        obtain ⟨t1, x1, h1⟩ := hx.get (i := i + 1) (by omega)
        obtain ⟨t0, x0, h0⟩ := hx.get (i := i) (by omega)
        refine ⟨_, rfl, _, rfl, a, xs, _, _, rfl, rfl, SqL.of ha, atI_cast (j := i + 1) (by omega) x1, t1, _, 0, _, rfl, rfl, SqT.of h1, rfl, _, rfl, _, rfl, _, _, rfl, rfl, a, xs, _, _, rfl, rfl, SqL.of ha, atI_cast (j := i) (by omega) x0, t0, _, 0, _, rfl, rfl, SqT.of h0, rfl, _, _, rfl, rfl, _, rfl, ?_⟩
        by_cases c : pl r (i + 1) ≤ pl r i
        · rw [decide_eq_true (show (r.getD (i + 1) (0, 0)).1 ≤ (r.getD i (0, 0)).1 from c)]
          exact iteT ⟨one_ok, q2 fun g => by have := g.rise i (i + 1) (by omega) (by omega); omega⟩
        · rw [decide_eq_false (show ¬ (r.getD (i + 1) (0, 0)).1 ≤ (r.getD i (0, 0)).1 from c)]
          refine iteF ⟨⟨_, _, rfl⟩, rfl, fun j z => ?_⟩
          by_cases ej : j = i
          · subst ej
            exact Int.not_le.mp c
          · exact ri j (by omega)
      · rintro σ H3 ⟨_, rfl, ri⟩
        exact q1 ⟨adj_rise fun i hi => ri i (by omega), so⟩
noncomputable def spShort : Sp := fun vs H Q _ => ∃ i : Int, vs = [.int i] ∧ Q (.bl (decide (i.natAbs < 10 ^ 60))) H
theorem scShort : FnScope ["number"] ["number"] (defScope s_is_short) := ⟨rfl, rfl, rfl, by decide +kernel, rfl, by decide +kernel, by decide +kernel⟩
theorem short_dec (i : Int) : decide ((if i < 0 then -i else i) < (10 : Int) ^ (60 : Int).toNat) = decide (i.natAbs < 10 ^ 60) := by
  have e : (10 : Int) ^ (60 : Int).toNat = ((10 ^ 60 : Nat) : Int) := by decide
  rw [e, Bool.eq_iff_iff, decide_eq_true_eq, decide_eq_true_eq]
  split <;> omega
theorem ok_short {f : Addr} {fd : FuncData} (F : Fun K "is_short" "is_short" s_is_short f fd) (B : Blt mg) : FnOk P w K mg base CX0 1 f fd ["number"] spShort := by
  refine F.ok scShort (fun vs H Q E h => ?_) (fun cdv A outer s H vs Q E hr h => ?_)
  · obtain ⟨i, rfl, _⟩ := h
    rfl
  · obtain ⟨i, rfl, q⟩ := h
    refine ⟨_, (pss_one (ps_ret (pe_cmpR op_lt (pe_callB call_abs (by rfl) B.b_abs boot_abs (pa_cons (pv 0) pa_nil)) (pe_op op_pow pe_int pe_int) (nomark _)))), ?_⟩
    refine ⟨_, rfl, i, rfl, _, _, rfl, rfl, ⟨by decide, by decide, by decide⟩, _, _, rfl, rfl, ?_⟩
    rw [← short_dec] at q
    exact q
end
end Fk

set_option genSizeOf false
set_option genInjectivity false
namespace Fk
open PySem L2 Fm PyProof.Rows
theorem app_sg (a y : Str) : sg (a ++ y) = sg a ++ sg y := by
  show (a.cps ++ y.cps).toList = _
  exact Array.toList_append
theorem empty_add (d : Str) : Str.empty ++ d = d := ext_sg (by rw [app_sg]; rfl)
theorem colon_eq : Str.ofString ":" = colon := by decide +kernel
theorem blank_eq : Str.ofString " " = blank := by decide +kernel
theorem int_len {n : Int} (h : n.natAbs < 10 ^ 61) : (Str.ofString (toString n)).length ≤ 62 := by
  rw [PySem.ofString_length]
  exact int_text_length_le10 (by decide) h
theorem stT_len {p : Int × Int} (h : p.1.natAbs < 10 ^ 61 ∧ p.2.natAbs < 10 ^ 61) : (stT p).length ≤ 125 := by
  unfold stT
  rw [strLen_append, strLen_append]
  have h1 := int_len h.1
  have h2 := int_len h.2
  have h3 : colon.length = 1 := rfl
  omega
theorem fstr_eq (i j : Int) : ((Str.empty ++ Str.ofString (toString i)) ++ Str.ofString ":") ++ Str.ofString (toString j) = stT (i, j) := by
  rw [empty_add, colon_eq]
  rfl
noncomputable def Short (r : Row) : Prop := ∀ p ∈ r, p.1.natAbs < 10 ^ 60 ∧ p.2.natAbs < 10 ^ 60
theorem sum_le {l : List Nat} {b : Nat} (h : ∀ x ∈ l, x ≤ b) : l.sum ≤ l.length * b := by
  induction l with
  | nil => simp
  | cons a l ih =>
    rw [List.sum_cons, List.length_cons, Nat.succ_mul]
    have := h a (by simp)
    have := ih fun x hx => h x (by simp [hx])
    omega
theorem join_fits {ws : List Str} {b : Nat} (h : ∀ x ∈ ws, x.length ≤ b) (hl : ws.length * (b + 1) ≤ sizeLine) : JoinOk blank ws = true := by
  unfold JoinOk
  rw [Bool.not_eq_true']
  have e := StrLaws.joinTotal blank ws
  have e2 : (ws.toArray.foldl (· + ·.length + blank.length) 0) = (ws.map (·.length)).sum + ws.length * blank.length := e
  rw [e2]
  have s := sum_le (l := ws.map (·.length)) (b := b) (fun x hx => by obtain ⟨y, hy, rfl⟩ := List.mem_map.mp hx; exact h y hy)
  rw [List.length_map] at s
  have hb : blank.length = 1 := rfl
  rw [hb, Nat.mul_one]
  unfold Builtin.Str.tooLong
  rw [decide_eq_false_iff_not]
  have : ws.length * (b + 1) = ws.length * b + ws.length := Nat.mul_succ _ _
  omega
section
variable {P : Program} {w : World} {K : PySem.W.Frag} {mg : Str → Option Value} {base : Heap} {eF eR eS eD eT : Addr}
theorem mt_joinK {X : Cx} (K : PySem.W.Frag) (hK : X.K = K) : MtR X "str.join" (rJoin K) := by subst hK; exact mt_join
noncomputable def spWri (eR : Addr) : Sp := fun vs H Q E => ∃ a r, vs = [.ref a] ∧ RowAt H a r ∧ r.length ≤ 5000 ∧ Good r ∧ (Short r → ∀ H', Same H H' → Q (.str (rowText r)) H') ∧ (¬ Short r → ∀ x, H x = none → E (.ref eR) (some x) H)
theorem scWri : FnScope ["row", "place", "height"] ["row"] (defScope s_written) := ⟨rfl, rfl, rfl, by decide +kernel, rfl, by decide +kernel, by decide +kernel⟩
theorem ok_wri {f : Addr} {fd : FuncData} (F : Fun K "written" "written" s_written f fd) (B : Blt mg) (T : Ex7 K mg eF eR eS eD eT) (d_ck : DfnE P w K mg base "check_row" 3 ["row"] (spCk7 eR)) (d_short : Dfn P w K mg base "is_short" 1 ["number"] spShort) : FnOk P w K mg base (CXE P w) 4 f fd ["row"] (spWri eR) := by
  refine F.okE scWri (fun vs H Q E h => ?_) (fun cdv A outer s H vs Q E hr R h => ?_)
  · obtain ⟨a, r, rfl, _⟩ := h
    rfl
  · obtain ⟨a, r, rfl, ⟨xs, ha, hx⟩, hle, g, q1, q2⟩ := h
    have hlen := hx.length
    refine ⟨_, (pss_cons (ps_expr (pe_callE d_ck R (hr.mono (by decide)) (by rfl) (pa_cons (pv 0) pa_nil)))
      (pss_cons (ps_for PassesOwn.leaving rfl (pi_list (pv 0)) (pg_tupK (n := 2) K rfl rfl (pgs_cons (pg_name (i := 1) scWri.nd rfl (Or.inl rfl)) (pgs_cons (pg_name (i := 2) scWri.nd rfl (Or.inl rfl)) pgs_nil)))
        (pss_one (ps_if (PW.pt (pw_or (pt_not (pt_val (pe_callD d_short (hr.mono (by decide)) (by rfl) (pa_cons (pv 1) pa_nil)))) (pw_or1 (pt_not (pt_val (pe_callD d_short (hr.mono (by decide)) (by rfl) (pa_cons (pv 2) pa_nil)))))))
          (pss_one (ps_raiseE R T.gR T.kR.ex (by rfl) hr.hd (pa_cons pe_str pa_nil)))
          pss_nil)))
      (pss_one (ps_ret (pe_bm PySem.F.plainAttrs_str PySem.F.slot_str_join PySem.F.type_str_join (mt_joinK K rfl) pe_str (pa_cons (pe_comp rfl (cap := []) (own := ["place", "height"]) (CompOk.of (outer := defScope s_written) (N := ["row", "place", "height"]) rfl rfl (by decide +kernel)) (pi_list (pv 0))
        (fun _ _ _ _ => ⟨(pg_tupK (n := 2) K rfl rfl (pgs_cons (pg_name (i := 0) (show List.Nodup (["place", "height"] : List Str) by decide +kernel) rfl (Or.inl rfl)) (pgs_cons (pg_name (i := 1) (show List.Nodup (["place", "height"] : List Str) by decide +kernel) rfl (Or.inl rfl)) pgs_nil))), pf_nil, (pe_fstr (pv 0) (pv 1) (by decide))⟩)) pa_nil)))))), ?_⟩
    refine ⟨_, rfl, a, r, rfl, ⟨xs, ha, hx⟩, hle, fun _ => ?_, fun z => absurd g z⟩
    refine ⟨_, rfl, a, rfl, ⟨_, SqL.of ha⟩, for_list (K := K) (a := a) (xs := xs) (fun i σ H2 => (∃ v u, σ = [some (.ref a), v, u]) ∧ H2 = H ∧ ∀ (j : Nat) (p : Int × Int), j < i → r[j]? = some p → p.1.natAbs < 10 ^ 60 ∧ p.2.natAbs < 10 ^ 60) ⟨⟨none, none, rfl⟩, rfl, fun j p z => absurd z (by omega)⟩ (fun i σ H2 _ ⟨_, e, _⟩ => e ▸ SqL.of ha) ?_ ?_⟩
    · rintro i y σ H2 hi ⟨⟨v, u, rfl⟩, rfl, so⟩
      obtain ⟨p, e1, t, rfl, e2⟩ := paired_get hx i hi
      refine ⟨t, _, rfl, SqT.of e2, rfl, _, _, rfl, _, _, rfl, rfl, ?_⟩
      refine ⟨_, rfl, p.1, rfl, _, rfl, ?_⟩
      have bad : (¬ (p.1.natAbs < 10 ^ 60 ∧ p.2.natAbs < 10 ^ 60)) → ¬ Short r := fun n z => n (z p (List.mem_of_getElem? e1))
      by_cases c1 : p.1.natAbs < 10 ^ 60
      · rw [decide_eq_true c1]
        refine iteF ⟨_, rfl, p.2, rfl, _, rfl, ?_⟩
        by_cases c2 : p.2.natAbs < 10 ^ 60
        · rw [decide_eq_true c2]
          refine iteF ⟨⟨_, _, rfl⟩, rfl, fun j p' z e => ?_⟩
          by_cases ej : j = i
          · subst ej
            rw [e1] at e
            cases e
            exact ⟨c1, c2⟩
          · exact so j p' (by omega) e
        · rw [decide_eq_false c2]
          exact iteT ⟨one_ok, q2 (bad fun z => c2 z.2)⟩
      · rw [decide_eq_false c1]
        exact iteT (iteT ⟨one_ok, q2 (bad fun z => c1 z.1)⟩)
    · rintro σ H2 ⟨⟨v, u, rfl⟩, rfl, so⟩
      have sh : Short r := fun p hp => by
        obtain ⟨j, hj⟩ := List.getElem?_of_mem hp
        exact so j p (by rw [hlen]; exact (List.getElem?_eq_some_iff.mp hj).1) hj
      have sh1 : ∀ p ∈ r, p.1.natAbs < 10 ^ 61 ∧ p.2.natAbs < 10 ^ 61 := fun p hp => ⟨Nat.lt_trans (sh p hp).1 (by decide), Nat.lt_trans (sh p hp).2 (by decide)⟩
      refine ⟨rfl, _, rfl, a, rfl, ⟨_, SqL.of ha⟩, comp_fil5 (n := xs.length) (fun _ => true) (fun i => V.str (stT (r.getD i (0, 0)))) (by omega) (fun j H3 s3 hj => ⟨xs, _, SqL.of (s3 _ _ ha), List.getElem?_eq_getElem hj⟩) (fun H3 s3 => ⟨xs, SqL.of (s3 _ _ ha), Nat.le_refl _⟩) ?_ ?_⟩
      · rintro j y H3 H4 Q1 Q2 hj s3 ⟨rfl, hy⟩ y1 y2
        obtain ⟨p, e1, t, rfl, e2⟩ := paired_get hx j (hy xs (SqL.of (s3 _ _ ha)))
        have hp := sh1 p (List.mem_of_getElem? e1)
        refine ⟨t, _, rfl, SqT.of (s3 _ _ e2), rfl, _, _, rfl, _, _, rfl, rfl, ⟨rfl, rfl⟩, _, rfl, p.1, rfl, log_small hp.1, Nat.le_trans (int_len hp.1) (by decide), _, rfl, p.2, rfl, log_small hp.2, ?_, ?_⟩
        · rw [fstr_eq]
          exact Nat.le_trans (stT_len hp) (by decide)
        · rw [fstr_eq]
          have e3 : r.getD j (0, 0) = p := by rw [List.getD_eq_getElem?_getD, e1]; rfl
          have := y1 rfl _ (Same.refl _)
          rw [e3] at this
          exact this
      · intro D H3 hD s3 hd
        have e3 : ((List.range xs.length).filter fun _ => true).map (fun i => V.str (stT (r.getD i (0, 0)))) = (r.map stT).map V.str := by
          rw [fil_all, hlen, List.map_map]
          apply List.ext_getElem?
          intro i
          rw [List.getElem?_map, List.getElem?_map]
          by_cases c : i < r.length
          · rw [List.getElem?_range c, List.getElem?_eq_getElem c]
            show some (V.str (stT (r.getD i (0, 0)))) = some (V.str (stT r[i]))
            rw [List.getD_eq_getElem?_getD, List.getElem?_eq_getElem c]
            rfl
          · rw [List.getElem?_eq_none (by simpa using c), List.getElem?_eq_none (by simpa using c)]
            rfl
        rw [e3] at hd
        refine ⟨Str.ofString " ", D, r.map stT, rfl, rfl, SqL.of hd, ?_, ?_⟩
        · rw [blank_eq]
          refine join_fits (b := 125) (fun x hx' => ?_) ?_
          · obtain ⟨p, hp, rfl⟩ := List.mem_map.mp hx'
            exact stT_len (sh1 p hp)
          · rw [List.length_map, sizeLine_eq]
            omega
        · rw [blank_eq]
          have e4 : Txt.join blank (r.map stT) = rowText r := StrLaws.glued_eq_join _ _
          rw [e4]
          exact q1 sh H3 s3
end
end Fk

set_option genSizeOf false
set_option genInjectivity false
namespace Fk
open PySem L2 Fm PyProof.Rows
theorem iteY {c A B : Prop} [Decidable c] (hc : c) (h : A) : if decide c = true then A else B := by
  rw [if_pos (decide_eq_true hc)]
  exact h
theorem iteZ {c A B : Prop} [Decidable c] (hc : ¬ c) (h : B) : if decide c = true then A else B := by
  rw [if_neg (by rw [decide_eq_false hc]; exact Bool.false_ne_true)]
  exact h
structure Cst7 (mg : Str → Option Value) (tF tM : Tok) : Prop where
  hF : mg "FIGURES" = some (.str (Str.ofString "0123456789") tF)
  hM : mg "MOST_FIGURES" = some (.int 60 tM)
theorem minus_eq : Str.ofString "-" = ⟨#[45]⟩ := by decide +kernel
theorem nought_eq : Str.ofString "0" = ⟨#[48]⟩ := by decide +kernel
theorem starts_iff (z : Str) : Txt.startswith z (Str.ofString "-") = true ↔ ∃ r, sg z = 45 :: r := by
  rw [minus_eq]
  have h := StrLaws.subAt_one z 45 0
  have e : (Txt.startswith z ⟨#[45]⟩ = true) ↔ (0 + (⟨#[45]⟩ : Str).length ≤ z.length ∧ Builtin.Str.subAt z ⟨#[45]⟩ 0 = true) := by
    unfold Txt.startswith
    rw [Bool.and_eq_true, decide_eq_true_eq]
  rw [e, h]
  show (sg z)[0]? = some 45 ↔ _
  cases sg z with
  | nil => simp
  | cons a l => simp
theorem slice1 {z : Str} {r : List Nat} (h : sg z = 45 :: r) : sg (Txt.slice z (some 1) none) = r := by
  have e := StrLaws.sliceText_from (x := z) (i := 1) ⟨by decide, by show (1 : Int) ≤ ((sg z).length : Int); rw [h, List.length_cons]; omega⟩
  have e2 : Txt.slice z (some 1) none = StrLaws.sliceText z (some 1) none := rfl
  rw [e2, e]
  simp [h]
theorem fig_in (c : Nat) : (!(Builtin.Str.occurrences (Str.ofString "0123456789") ⟨#[c]⟩ 0 (Str.ofString "0123456789").length 1).isEmpty) = dig c := by
  rw [StrLaws.found_one]
  have e : (Str.ofString "0123456789").cps.toList = [48, 49, 50, 51, 52, 53, 54, 55, 56, 57] := by decide +kernel
  rw [e]
  unfold dig
  rw [Bool.eq_iff_iff, decide_eq_true_eq, decide_eq_true_eq]
  simp only [List.mem_cons, List.not_mem_nil, or_false]
  omega
theorem figs_sub (cs : List Nat) : (figs cs).length ≤ cs.length := by
  unfold figs
  split
  · simp
  · exact Nat.le_refl _
theorem all_getD (l : List Nat) (p : Nat → Bool) : ((List.range l.length).map fun i => p (l.getD i 0)).all id = l.all p := by
  have e : ((List.range l.length).map fun i => p (l.getD i 0)) = ((List.range l.length).map fun i => l.getD i 0).map p := by
    rw [List.map_map]
    rfl
  rw [e, map_range_getD, List.all_map]
  rfl
section
variable {P : Program} {w : World} {K : PySem.W.Frag} {mg : Str → Option Value} {base : Heap} {eF eR eS eD eT : Addr}
noncomputable def spWn : Sp := fun vs H Q _ => ∃ z : Str, vs = [.str z] ∧ z.length ≤ 5000 ∧ ∀ H', Same H H' → Q (.bl (numOk (sg z))) H'
theorem scWn : FnScope ["text", "figures"] ["text"] (defScope s_is_written_number) := ⟨rfl, rfl, rfl, by decide +kernel, rfl, by decide +kernel, by decide +kernel⟩
theorem len_sg (z : Str) : z.length = (sg z).length := by simp [sg, Str.length]
theorem small5 {n : Nat} (h : n ≤ 5000) : n ≤ sizeLine := by rw [sizeLine_eq]; omega
theorem ok_wn {f : Addr} {fd : FuncData} {tF tM : Tok} (F : Fun K "is_written_number" "is_written_number" s_is_written_number f fd) (B : Blt mg) (C : Cst7 mg tF tM) : FnOk P w K mg base CX0 1 f fd ["text"] spWn := by
  refine F.ok scWn (fun vs H Q E h => ?_) (fun cdv A outer s H vs Q E hr h => ?_)
  · obtain ⟨z, rfl, _⟩ := h
    rfl
  · obtain ⟨z, rfl, hz, q⟩ := h
    refine ⟨_, (pss_cons (ps_if (pt_cmpR op_eq (pv 0) pe_str (nomark _)) (pss_one (ps_ret pe_bl)) pss_nil)
      (pss_cons (ps_cut (ps_set (i := 1) scWn.nd rfl (Or.inl rfl) (pe_ifExp (pt_val (pe_bm PySem.F.plainAttrs_str PySem.F.slot_str_startswith PySem.F.type_str_startswith mt_starts (pv 0) (pa_cons pe_str pa_nil))) (pe_slice sl_str (pv 0) (po_some pe_int) po_none) (pv 0))))
      (pss_cons (ps_if (PW.pt (pw_or (pt_not (pt_chain op_le op_le pe_int (pe_callB call_len_str (by rfl) B.b_len boot_len (pa_cons (pv 1) pa_nil)) (pe_glob (v := .int 60) (by rfl) C.hM ⟨_, rfl⟩))) (pw_or1 (pt_cmpR op_eq (pe_ix ix_str (pv 1) pe_int (fun _ _ => rfl)) pe_str (nomark _)))))
        (pss_one (ps_ret pe_bl)) pss_nil)
      (pss_one (ps_ret (pe_callB (call_allB rfl) (by rfl) B.b_all boot_all (pa_cons (pe_comp rfl (cap := []) (own := ["sign"]) (CompOk.of (outer := defScope s_is_written_number) (N := ["text", "figures"]) rfl rfl (by decide +kernel)) (pi_str (pv 1))
        (fun _ _ _ _ => ⟨(pg_name (i := 0) (show List.Nodup (["sign"] : List Str) by decide +kernel) rfl (Or.inl rfl)), pf_nil, (pe_cmpR op_in_str (pv 0) (pe_glob (v := .str (Str.ofString "0123456789")) (by rfl) C.hF ⟨_, rfl⟩) rfl)⟩)) pa_nil))))))), ?_⟩
    refine ⟨_, rfl, rfl, _, rfl, ?_⟩
    by_cases c0 : V.str z = V.str (Str.ofString "0")
    · refine iteY c0 ?_
      have e : z = Str.ofString "0" := V.str.inj c0
      have := q H (Same.refl H)
      rw [e, nought_eq] at this
      exact this
    refine iteZ c0 ?_
    have z0 : sg z ≠ [48] := fun e => c0 (by rw [nought_eq]; exact congrArg V.str (ext_sg e))
    -- the figures
    refine ⟨fun σ H2 => H2 = H ∧ ∃ F : Str, σ = [some (.str z), some (.str F)] ∧ sg F = figs (sg z), ?_, ?_⟩
    · refine ⟨_, rfl, rfl, z, _, rfl, rfl, _, rfl, ?_⟩
      by_cases c1 : Txt.startswith z (Str.ofString "-") = true
      · rw [c1]
        obtain ⟨r, e⟩ := (starts_iff z).mp c1
        refine iteT ⟨_, rfl, 1, rfl, z, rfl, small5 hz, rfl, _, rfl, ?_⟩
        rw [slice1 e, e]
        rfl
      · rw [Bool.not_eq_true] at c1
        rw [c1]
        refine iteF ⟨_, rfl, rfl, z, rfl, ?_⟩
        unfold figs
        split
        · rename_i r e
          have := (starts_iff z).mpr ⟨r, e⟩
          rw [c1] at this
          cases this
        · rfl
    rintro σ H2 ⟨rfl, F, rfl, eF⟩
    have lF : F.length = (figs (sg z)).length := by rw [len_sg, eF]
    have lz : (figs (sg z)).length ≤ 5000 := Nat.le_trans (figs_sub _) (by rw [← len_sg]; exact hz)
    have nok : numOk (sg z) = (decide (1 ≤ (figs (sg z)).length ∧ (figs (sg z)).length ≤ 60) && (figs (sg z)).all dig && !((figs (sg z)).head? == some 48)) := by
      unfold numOk
      rw [beq_eq_false_iff_ne.mpr z0, Bool.or_false]
    have no : (decide (1 ≤ (figs (sg z)).length ∧ (figs (sg z)).length ≤ 60) && !((figs (sg z)).head? == some 48)) = false → numOk (sg z) = false := fun h => by
      rw [nok]
      revert h
      cases decide (1 ≤ (figs (sg z)).length ∧ (figs (sg z)).length ≤ 60) <;> cases (figs (sg z)).all dig <;> cases ((figs (sg z)).head? == some 48) <;> simp
    refine ⟨_, rfl, F, rfl, small5 (by omega), _, _, rfl, rfl, _, rfl, ?_⟩
    rw [lF]
    by_cases c2 : (1 : Int) ≤ ((figs (sg z)).length : Int)
    · refine iteY c2 ⟨_, _, rfl, rfl, _, rfl, ?_⟩
      by_cases c3 : ((figs (sg z)).length : Int) ≤ 60
      · rw [decide_eq_true c3]
        have hl : (1 ≤ (figs (sg z)).length ∧ (figs (sg z)).length ≤ 60) := ⟨by omega, by omega⟩
        obtain ⟨c, r, er⟩ : ∃ c r, figs (sg z) = c :: r := by
          cases e : figs (sg z) with
          | nil => rw [e] at hl; simp at hl
          | cons c r => exact ⟨c, r, rfl⟩
        refine iteF ⟨_, rfl, F, 0, c, rfl, rfl, small5 (by omega), ?_, rfl, _, rfl, ?_⟩
        · show atI (sg F) 0 = some c
          rw [eF, er]
          exact atI_cast (j := 0) rfl rfl
        by_cases c4 : V.str ⟨#[c]⟩ = V.str (Str.ofString "0")
        · refine iteY c4 ?_
          have hc : c = 48 := by
            rw [nought_eq] at c4
            have := congrArg sg (V.str.inj c4)
            simpa [sg] using this
          have := q H2 (Same.refl _)
          rw [no (by rw [er, hc]; simp)] at this
          exact this
        · refine iteZ c4 ?_
          have hc : c ≠ 48 := fun e => c4 (by rw [nought_eq, e])
          have nok2 : numOk (sg z) = (figs (sg z)).all dig := by
            rw [nok, decide_eq_true hl, er]
            simp [hc]
          refine ⟨_, rfl, F, rfl, comp_fil5 (n := F.cps.size) (fun _ => true) (fun i => V.bl (dig ((sg F).getD i 0))) (by have : F.cps.size = F.length := rfl; omega) (fun j H3 s3 hj => hj) (fun H3 s3 => Nat.le_refl _) ?_ ?_⟩
          · rintro j y H3 H4 Q1 Q2 hj s3 ⟨rfl, d, hd, rfl⟩ y1 y2
            refine ⟨⟨rfl, rfl⟩, _, rfl, _, _, rfl, rfl, ?_⟩
            rw [fig_in]
            have e3 : (sg F).getD j 0 = d := by
              rw [List.getD_eq_getElem?_getD]
              have : (sg F)[j]? = some d := by simpa [sg] using hd
              rw [this]
              rfl
            have := y1 rfl _ (Same.refl _)
            rw [e3] at this
            exact this
          · intro D H3 hD s3 hd
            refine ⟨D, _, rfl, SqL.of (hd.trans (by rw [fil_bl])), ?_⟩
            have e4 : (((List.range F.cps.size).filter fun _ => true).map fun i => dig ((sg F).getD i 0)).all id = (figs (sg z)).all dig := by
              rw [fil_all, ← eF]
              have : F.cps.size = (sg F).length := by simp [sg]
              rw [this]
              exact all_getD _ _
            rw [e4, ← nok2]
            exact q H3 s3
      · rw [decide_eq_false c3]
        have := q H2 (Same.refl _)
        rw [no (by rw [decide_eq_false (fun h => c3 (by omega))]; rfl)] at this
        exact iteT (iteT this)
    · refine iteZ c2 ⟨_, rfl, ?_⟩
      have := q H2 (Same.refl _)
      rw [no (by rw [decide_eq_false (fun h => c2 (by omega))]; rfl)] at this
      exact iteT (iteT this)
end
end Fk

set_option genSizeOf false
set_option genInjectivity false
namespace Fk
open PySem L2 Fm PyProof.Rows
theorem join_ge (y : Str) : ∀ ws : List Str, (∀ a ∈ ws, a.length ≤ (Str.join y ws).length) ∧ (1 ≤ y.length → ws.length ≤ (Str.join y ws).length + 1)
  | [] => ⟨(fun a h => nomatch h), fun _ => Nat.zero_le _⟩
  | [x] => ⟨fun a h => by rw [List.mem_singleton.mp h]; exact Nat.le_refl _, fun _ => by show 1 ≤ _; omega⟩
  | x :: z :: r => by
    obtain ⟨h1, h2⟩ := join_ge y (z :: r)
    have e : (Str.join y (x :: z :: r)).length = x.length + y.length + (Str.join y (z :: r)).length := by
      show (x ++ y ++ Str.join y (z :: r)).length = _
      rw [Str.length_append, Str.length_append]
    refine ⟨fun a h => ?_, fun hy => ?_⟩
    · rcases List.mem_cons.mp h with rfl | h
      · omega
      · have := h1 a h
        omega
    · have := h2 hy
      rw [List.length_cons]
      omega
theorem split_fits {z y : Str} (hy : 1 ≤ y.length) (hz : z.length ≤ 5000) : (Builtin.Str.occurrences z y 0 z.length (z.length + 1)).length < sizeLine ∧ (Txt.split z y).length ≤ 5001 ∧ ∀ a ∈ Txt.split z y, a.length ≤ 5000 := by
  have j := StrLaws.join_split z y
  obtain ⟨h1, h2⟩ := join_ge y (Txt.split z y)
  rw [j] at h1 h2
  have g := StrLaws.glued_between_self z y (z.length + 1)
  rw [StrLaws.glued_eq_join] at g
  have h3 := (join_ge y (Builtin.Str.partsBetween z (Builtin.Str.occurrences z y 0 z.length (z.length + 1)) y.length)).2 hy
  rw [g, length_partsBetween] at h3
  refine ⟨by rw [sizeLine_eq]; omega, by have := h2 hy; omega, fun a h => Nat.le_trans (h1 a h) hz⟩
theorem colon_len : 1 ≤ colon.length := by decide
theorem blank_len : 1 ≤ blank.length := by decide
section
variable {P : Program} {w : World} {K : PySem.W.Frag} {mg : Str → Option Value} {base : Heap} {eF eR eS eD eT : Addr}
noncomputable def spRn (eT : Addr) : Sp := fun vs H Q E => ∃ z : Str, vs = [.str z] ∧ z.length ≤ 5000 ∧ (numOk (sg z) = true → ∀ H', Same H H' → Q (.int (numV (sg z))) H') ∧ (numOk (sg z) = false → ∀ x H', Same H H' → E (.ref eT) (some x) H')
theorem scRn : FnScope ["text"] ["text"] (defScope s_read_number) := ⟨rfl, rfl, rfl, by decide +kernel, rfl, by decide +kernel, by decide +kernel⟩
theorem ok_rn {f : Addr} {fd : FuncData} (F : Fun K "read_number" "read_number" s_read_number f fd) (B : Blt mg) (T : Ex7 K mg eF eR eS eD eT) (d_wn : Dfn P w K mg base "is_written_number" 1 ["text"] spWn) : FnOk P w K mg base (CXG Ga P w) 2 f fd ["text"] (spRn eT) := by
  refine F.okE scRn (fun vs H Q E h => ?_) (fun cdv A outer s H vs Q E hr R h => ?_)
  · obtain ⟨z, rfl, _⟩ := h
    rfl
  · obtain ⟨z, rfl, hz, q1, q2⟩ := h
    refine ⟨_, (pss_cons (ps_if (pt_not (pt_val (pe_callD d_wn (hr.mono (by decide)) (by rfl) (pa_cons (pv 0) pa_nil))))
        (pss_one (ps_raiseE R T.gT T.kT.ex (by rfl) hr.hd (pa_cons pe_str pa_nil))) pss_nil)
      (pss_one (ps_ret (pe_callTy call_int_text (by rfl) B.b_int boot_int (pa_cons (pv 0) pa_nil))))), ?_⟩
    refine ⟨_, rfl, z, rfl, hz, fun H1 s1 => ⟨_, rfl, ?_⟩⟩
    cases c : numOk (sg z) with
    | false => exact iteT ⟨one_ok, fun x _ => q2 c x H1 s1⟩
    | true =>
      obtain ⟨h1, h2⟩ := int_word c
      exact iteF ⟨_, rfl, z, _, rfl, h1, h2, q1 c H1 s1⟩
noncomputable def spRs (eT : Addr) : Sp := fun vs H Q E => ∃ z : Str, vs = [.str z] ∧ z.length ≤ 5000 ∧ (∀ p, stone? z = some p → ∀ t H', Same H H' → H' t = some (.tup [.int p.1, .int p.2]) → Q (.ref t) H') ∧ (stone? z = none → ∀ x H', Same H H' → E (.ref eT) (some x) H')
theorem scRs : FnScope ["text", "parts"] ["text"] (defScope s_read_stone) := ⟨rfl, rfl, rfl, by decide +kernel, rfl, by decide +kernel, by decide +kernel⟩
theorem ok_rs {f : Addr} {fd : FuncData} (F : Fun K "read_stone" "read_stone" s_read_stone f fd) (B : Blt mg) (T : Ex7 K mg eF eR eS eD eT) (d_rn : DfnG Ga P w K mg base "read_number" 2 ["text"] (spRn eT)) : FnOk P w K mg base (CXG Ga P w) 3 f fd ["text"] (spRs eT) := by
  refine F.okE scRs (fun vs H Q E h => ?_) (fun cdv A outer s H vs Q E hr R h => ?_)
  · obtain ⟨z, rfl, _⟩ := h
    rfl
  · obtain ⟨z, rfl, hz, q1, q2⟩ := h
    refine ⟨_, (pss_cons (ps_set (i := 1) scRs.nd rfl (Or.inl rfl) (pe_bm PySem.F.plainAttrs_str PySem.F.slot_str_split PySem.F.type_str_split mt_split (pv 0) (pa_cons pe_str pa_nil)))
      (pss_cons (ps_if (pt_cmpR op_ne (pe_callB (call_len_seqK K rfl) (by rfl) B.b_len boot_len (pa_cons (pv 1) pa_nil)) pe_int (nomark _))
        (pss_one (ps_raiseE R T.gT T.kT.ex (by rfl) hr.hd (pa_cons pe_str pa_nil))) pss_nil)
      (pss_one (ps_ret (pe_tup (pa_cons (pe_callE d_rn R (hr.mono (by decide)) (by rfl) (pa_cons (pe_ix (ix_listK K rfl) (pv 1) pe_int (fun _ _ => rfl)) pa_nil)) (pa_cons (pe_callE d_rn R (hr.mono (by decide)) (by rfl) (pa_cons (pe_ix (ix_listK K rfl) (pv 1) pe_int (fun _ _ => rfl)) pa_nil)) pa_nil))))))), ?_⟩
    obtain ⟨f1, f2, f3⟩ := split_fits (z := z) colon_len hz
    refine ⟨_, rfl, rfl, z, Str.ofString ":", rfl, rfl, by decide, small5 hz, by rw [colon_eq]; exact f1, by rw [colon_eq]; exact Nat.le_trans f2 (by decide), fun D hD => ?_⟩
    rw [colon_eq]
    have st : stone? z = match Txt.split z colon with
      | [a, b] => if (numOk (sg a) && numOk (sg b)) = true then some (numV (sg a), numV (sg b)) else none
      | _ => none := rfl
    generalize Txt.split z colon = ws at f2 f3 st ⊢
    refine ⟨_, rfl, D, _, rfl, .inl (SqL.of upd_same), rfl, _, rfl, ?_⟩
    rw [List.length_map]
    by_cases c : ws.length = 2
    · obtain ⟨a, b, rfl⟩ : ∃ a b, ws = [a, b] := by
        match ws, c with
        | [a, b], _ => exact ⟨a, b, rfl⟩
      refine iteF ?_
      refine ⟨_, rfl, D, _, 0, _, rfl, rfl, SqL.of upd_same, rfl, a, rfl, f3 a (by simp), fun ha H1 s1 => ?_, fun ha x H1 s1 => q2 (by rw [st]; show (if (numOk (sg a) && numOk (sg b)) = true then _ else none) = none; rw [ha]; rfl) x H1 ((Same.upd hD).trans s1)⟩
      refine ⟨_, rfl, D, _, 1, _, rfl, rfl, SqL.of (s1 _ _ upd_same), rfl, b, rfl, f3 b (by simp), fun hb H2 s2 => ?_, fun hb x H2 s2 => q2 (by rw [st]; show (if (numOk (sg a) && numOk (sg b)) = true then _ else none) = none; rw [hb, Bool.and_false]; rfl) x H2 (((Same.upd hD).trans s1).trans s2)⟩
      refine ⟨two_ok, fun t ht => q1 (numV (sg a), numV (sg b)) (by rw [st]; show (if (numOk (sg a) && numOk (sg b)) = true then _ else none) = _; rw [ha, hb]; rfl) t _ ((((Same.upd hD).trans s1).trans s2).trans (Same.upd ht)) upd_same⟩
    · have hst : stone? z = none := by
        rw [st]
        split
        · exact absurd rfl c
        · rfl
      have e : (!decide (V.int (ws.length : Int) = V.int 2)) = true := by
        rw [dec_len, decide_eq_false c]
        rfl
      rw [e]
      exact iteT ⟨one_ok, fun x _ => q2 hst x _ (Same.upd hD)⟩
end
end Fk

set_option genSizeOf false
set_option genInjectivity false
namespace Fk
open PySem L2 Fm PyProof.Rows
theorem stones_none : ∀ {ws : List Str} (i : Nat) {z : Str}, ws[i]? = some z → stone? z = none → stones? ws = none
  | [], i, z, h, _ => by simp at h
  | v :: ws, 0, z, h, e => by
    simp at h
    subst h
    show (stone? v).bind _ = none
    rw [e]
    rfl
  | v :: ws, i + 1, z, h, e => by
    have ih := stones_none i (by simpa using h) e
    show (stone? v).bind (fun p => (stones? ws).map (p :: ·)) = none
    rw [ih]
    cases stone? v <;> rfl
noncomputable def StF (ws : List Str) : Nat → List V → Prop := fun i vs => ∃ z p, ws[i]? = some z ∧ stone? z = some p ∧ vs = [.int p.1, .int p.2]
theorem tups_row {H : Hp} : ∀ {ws : List Str} {ys : List V}, ys.length = ws.length → TupsV (StF ws) H ys → ∃ r, stones? ws = some r ∧ RowV H ys r
  | [], [], _, _ => ⟨[], rfl, .nil⟩
  | [], y :: ys, h, _ => by simp at h
  | v :: ws, [], h, _ => by simp at h
  | v :: ws, y :: ys, h, t => by
    obtain ⟨a, vs, e1, e2, z, p, e3, e4, e5⟩ := t 0 y rfl
    obtain ⟨r, r1, r2⟩ := tups_row (H := H) (ws := ws) (ys := ys) (by simpa using h) fun k x e => by
      obtain ⟨a, vs, e1, e2, z, p, e3, e4, e5⟩ := t (k + 1) x (by simpa using e)
      exact ⟨a, vs, e1, e2, z, p, by simpa using e3, e4, e5⟩
    simp at e3
    subst e3 e5
    refine ⟨p :: r, ?_, .cons ⟨a, e1, e2⟩ r2⟩
    show (stone? v).bind (fun p => (stones? ws).map (p :: ·)) = _
    rw [e4, r1]
    rfl
section
variable {P : Program} {w : World} {K : PySem.W.Frag} {mg : Str → Option Value} {base : Heap} {eF eR eS eD eT : Addr}
noncomputable def NoText (K : PySem.W.Frag) (H : Hp) (v : V) : Prop := ∃ t, TyOf K H v t ∧ PySem.W.kitOne K t (.type "str") = some false
noncomputable def spRead (K : PySem.W.Frag) (eT : Addr) : Sp := fun vs H Q E => ∃ v, vs = [v] ∧
  ((∃ z : Str, v = .str z ∧ z.length ≤ 4900 ∧ (∀ r, rowT z = some r → ∀ D H', H D = none → Same H H' → RowAt H' D r → Q (.ref D) H') ∧ (rowT z = none → ∀ x H', Same H H' → E (.ref eT) (some x) H'))
  ∨ (NoText K H v ∧ ∀ x H', Same H H' → E (.ref eT) (some x) H'))
theorem scRead : FnScope ["text", "row"] ["text"] (defScope s_read) := ⟨rfl, rfl, rfl, by decide +kernel, rfl, by decide +kernel, by decide +kernel⟩
theorem ok_read {f : Addr} {fd : FuncData} (F : Fun K "read" "read" s_read f fd) (B : Blt mg) (T : Ex7 K mg eF eR eS eD eT) (d_rs : DfnG Ga P w K mg base "read_stone" 3 ["text"] (spRs eT)) (d_ck : DfnE P w K mg base "check_row" 3 ["row"] (spCk7 eR)) : FnOk P w K mg base (CXG Ga P w) 4 f fd ["text"] (spRead K eT) := by
  refine F.okE scRead (fun vs H Q E h => ?_) (fun cdv A outer s H vs Q E hr R h => ?_)
  · obtain ⟨v, rfl, _⟩ := h
    rfl
  · obtain ⟨v, rfl, h⟩ := h
    refine ⟨_, (pss_cons (ps_if (pt_not (pt_val (pe_callB (call_isiK K rfl) (by rfl) B.b_isinstance boot_isinstance (pa_cons (pv 0) (pa_cons (pe_bltn (v := .ty "str") rfl B.b_str boot_str rfl) pa_nil)))))
        (pss_one (ps_raiseE R T.gT T.kT.ex (by rfl) hr.hd (pa_cons pe_str pa_nil))) pss_nil)
      (pss_cons (ps_if (pt_cmpR op_eq (pv 0) pe_str (nomark _)) (pss_one (ps_ret (pe_lst pa_nil))) pss_nil)
      (pss_cons (ps_setCompE R rfl (cap := []) (own := ["part"]) (i := 1) (CompOk.of (outer := defScope s_read) (N := ["text", "row"]) rfl rfl (by decide +kernel)) scRead.nd rfl (Or.inl rfl) (pi_list (pe_bm PySem.F.plainAttrs_str PySem.F.slot_str_split PySem.F.type_str_split mt_split (pv 0) (pa_cons pe_str pa_nil)))
        (fun _ _ _ _ => ⟨(pg_name (i := 0) (show List.Nodup (["part"] : List Str) by decide +kernel) rfl (Or.inl rfl)), pf_nil, (pe_callX d_rs (hr.mono (by decide)) (by rfl) (pa_cons (pv 0) pa_nil))⟩))
      (pss_cons (ps_tryR R d_ck (hr.mono (by decide)) (by rfl) (pa_cons (pv 1) pa_nil) T.gR (by rfl) T.gT (by rfl) T.kT.ex (by decide))
      (pss_one (ps_ret (pv 1))))))), ?_⟩
    rcases h.symm with ⟨⟨t, h1, h2⟩, q⟩ | ⟨z, rfl, hz, q1, q2⟩
    · exact ⟨_, rfl, _, _, t, false, rfl, h1, h2, _, rfl, iteT ⟨one_ok, fun x _ => q x H (Same.refl H)⟩⟩
    refine ⟨_, rfl, _, _, _, true, rfl, TyOf.str z, kitB (by decide +kernel), _, rfl, iteF ?_⟩
    refine ⟨_, rfl, rfl, _, rfl, ?_⟩
    by_cases c0 : V.str z = V.str (Str.ofString "")
    · refine iteY c0 ?_
      have e : z = Str.ofString "" := V.str.inj c0
      have hr0 : rowT z = some [] := by rw [e]; rfl
      exact ⟨Nat.zero_le _, fun D hD => q1 [] hr0 D _ hD (Same.upd hD) ⟨[], upd_same, .nil⟩⟩
    refine iteZ c0 ?_
    have z0 : ¬ sg z = [] := fun e => c0 (congrArg V.str (ext_sg (e.trans rfl)))
    have hz5 : z.length ≤ 5000 := Nat.le_trans hz (by decide)
    obtain ⟨f1, f2, f3⟩ := split_fits (z := z) blank_len hz5
    have st : rowT z = (stones? (Txt.split z blank)).bind fun r => if goodB r = true then some r else none := if_neg z0
    refine ⟨_, rfl, rfl, z, Str.ofString " ", rfl, rfl, by decide, small5 hz5, by rw [blank_eq]; exact f1, by rw [blank_eq]; exact Nat.le_trans f2 (by decide), fun L hL => ?_⟩
    rw [blank_eq]
    have f2' : (Txt.split z blank).length ≤ 4901 := by
      have := (join_ge blank (Txt.split z blank)).2 blank_len
      rw [StrLaws.join_split] at this
      omega
    generalize Txt.split z blank = ws at f2 f2' f3 st ⊢
    have sL := Same.upd (o := .lst (ws.map V.str)) hL
    refine ⟨L, rfl, ⟨_, SqL.of upd_same⟩, comp_tupsG (n := ws.length) (StF ws) f2 (fun j H3 s3 hj => ⟨_, V.str ws[j], SqL.of (s3 _ _ upd_same), by rw [List.getElem?_map, List.getElem?_eq_getElem hj]; rfl⟩) (fun H3 s3 => ⟨_, SqL.of (s3 _ _ upd_same), by rw [List.length_map]; exact Nat.le_refl _⟩) ?_ ?_⟩
    · rintro j y H3 H4 Q1 Q2 hj s3 ⟨rfl, hy⟩ y1
      have hy := hy _ (SqL.of (s3 _ _ upd_same))
      rw [List.getElem?_map, List.getElem?_eq_getElem hj] at hy
      cases hy
      refine ⟨⟨rfl, rfl⟩, _, rfl, ws[j], rfl, f3 _ (List.getElem_mem hj), fun p hp t H5 s5 ht => y1 t _ H5 s5 ht ⟨ws[j], p, List.getElem?_eq_getElem hj, hp, rfl⟩, fun hn x H5 s5 => q2 ?_ x H5 ((sL.trans s3).trans s5)⟩
      rw [st, stones_none j (List.getElem?_eq_getElem hj) hn]
      rfl
    · intro D ys H3 hD s3 hd yl ty
      obtain ⟨r, r1, r2⟩ := tups_row yl ty
      rw [r1] at st
      have st : rowT z = if goodB r = true then some r else none := st
      have hrl : r.length ≤ 5000 := by rw [← r2.length, yl]; omega
      have hH : H D = none := by
        cases e : H D with
        | none => rfl
        | some u =>
          have := sL _ _ e
          rw [hD] at this
          cases this
      refine ⟨_, rfl, fun C x H' => C = .ref eR ∧ H' = H3 ∧ ¬ Good r, ⟨D, r, rfl, ⟨ys, hd, r2⟩, hrl, fun g => ?_, fun g x hx => ⟨rfl, rfl, g⟩⟩, ?_⟩
      · rw [if_pos (goodB_iff.mpr g)] at st
        exact ⟨_, rfl, q1 r st D H3 hH (sL.trans s3) ⟨ys, hd, r2⟩⟩
      · rintro C x H' ⟨e1, rfl, g⟩ hx
        cases e1
        refine ⟨T.hR, fun e => q2 ?_ e _ ((sL.trans s3).trans (Same.upd hx))⟩
        rw [st, if_neg (fun c => g (goodB_iff.mp c))]
end
end Fk

set_option genSizeOf false
set_option genInjectivity false
namespace Fk
open PySem L2 Fm PyProof.Rows
theorem slice_to1 {z : Str} : (Txt.slice z none (some 1) = Str.ofString "-") ↔ ∃ r, sg z = 45 :: r := by
  rw [minus_eq]
  cases h : sg z with
  | nil =>
    have hz : z = ⟨#[]⟩ := ext_sg (h.trans rfl)
    subst hz
    constructor
    · intro e
      exact absurd e (by decide)
    · rintro ⟨r, e⟩
      cases e
  | cons a l =>
    have e := StrLaws.sliceText_to (x := z) (j := 1) ⟨by decide, by show (1 : Int) ≤ ((sg z).length : Int); rw [h, List.length_cons]; omega⟩
    have e2 : Txt.slice z none (some 1) = StrLaws.sliceText z none (some 1) := rfl
    rw [e2, e, show z.cps.toList = a :: l from h]
    constructor
    · intro e
      have := congrArg sg e
      simp [sg] at this
      exact ⟨l, by rw [this]⟩
    · rintro ⟨r, e⟩
      cases e
      rfl
noncomputable def numW (z : Str) : V := if numOk (sg z) = true then .int (numV (sg z)) else .non
section
variable {P : Program} {w : World} {K : PySem.W.Frag} {mg : Str → Option Value} {base : Heap} {eF eR eS eD eT : Addr}
noncomputable def spLNum : Sp := fun vs H Q _ => ∃ z : Str, vs = [.str z] ∧ z.length ≤ 5000 ∧ ∀ H', Same H H' → Q (numW z) H'
theorem scLNum : FnScope ["_law_word", "_law_figures"] ["_law_word"] (defScope s_law_number) := ⟨rfl, rfl, rfl, by decide +kernel, rfl, by decide +kernel, by decide +kernel⟩
theorem ok_lnum {f : Addr} {fd : FuncData} (F : Fun K "_law_number" "_law_number" s_law_number f fd) (B : Blt mg) : FnOk P w K mg base CX0 1 f fd ["_law_word"] spLNum := by
  refine F.ok scLNum (fun vs H Q E h => ?_) (fun cdv A outer s H vs Q E hr h => ?_)
  · obtain ⟨z, rfl, _⟩ := h
    rfl
  · obtain ⟨z, rfl, hz, q⟩ := h
    refine ⟨_, (pss_cons (ps_cut (ps_set (i := 1) scLNum.nd rfl (Or.inl rfl) (pe_ifExp (pt_cmpR op_eq (pe_slice sl_str (pv 0) po_none (po_some pe_int)) pe_str (nomark _)) (pe_slice sl_str (pv 0) (po_some pe_int) po_none) (pv 0))))
      (pss_cons (ps_if (PW.pt (pw_or (pt_not (pt_chain op_lt op_lt pe_int (pe_callB call_len_str (by rfl) B.b_len boot_len (pa_cons (pv 1) pa_nil)) pe_int)) (pw_or1 (pt_not (pt_val (pe_callB (call_allB rfl) (by rfl) B.b_all boot_all (pa_cons (pe_comp rfl (cap := []) (own := ["_law_sign"]) (CompOk.of (outer := defScope s_law_number) (N := ["_law_word", "_law_figures"]) rfl rfl (by decide +kernel)) (pi_str (pv 1))
        (fun _ _ _ _ => ⟨(pg_name (i := 0) (show List.Nodup (["_law_sign"] : List Str) by decide +kernel) rfl (Or.inl rfl)), pf_nil, (pe_cmpR op_in_str (pv 0) pe_str rfl)⟩)) pa_nil)))))))
        (pss_one (ps_ret pe_non)) pss_nil)
      (pss_cons (ps_if (PW.pt (pw_and (pt_cmpR op_eq (pe_ix ix_str (pv 1) pe_int (fun _ _ => rfl)) pe_str (nomark _)) (pw_and1 (pt_cmpR op_ne (pv 0) pe_str (nomark _)))))
        (pss_one (ps_ret pe_non)) pss_nil)
      (pss_one (ps_ret (pe_callTy call_int_text (by rfl) B.b_int boot_int (pa_cons (pv 0) pa_nil))))))), ?_⟩
    refine ⟨fun σ H2 => H2 = H ∧ ∃ F : Str, σ = [some (.str z), some (.str F)] ∧ sg F = figs (sg z), ?_, ?_⟩
    · refine ⟨_, rfl, 1, rfl, z, rfl, small5 hz, rfl, _, rfl, ?_⟩
      by_cases c1 : V.str (Txt.slice z none (some 1)) = V.str (Str.ofString "-")
      · obtain ⟨r, e⟩ := slice_to1.mp (V.str.inj c1)
        refine iteY c1 ⟨_, rfl, 1, rfl, z, rfl, small5 hz, rfl, _, rfl, ?_⟩
        rw [slice1 e, e]
        rfl
      · refine iteZ c1 ⟨_, rfl, rfl, z, rfl, ?_⟩
        unfold figs
        split
        · rename_i r e
          exact absurd (congrArg V.str (slice_to1.mpr ⟨r, e⟩)) c1
        · rfl
    rintro σ H2 ⟨rfl, F, rfl, eF⟩
    have lF : F.length = (figs (sg z)).length := by rw [len_sg, eF]
    have lz : (figs (sg z)).length ≤ 5000 := Nat.le_trans (figs_sub _) (by rw [← len_sg]; exact hz)
    have no : numOk (sg z) = false → ∀ H', Same H2 H' → Q .non H' := fun h H' s' => by
      have := q H' s'
      unfold numW at this
      rw [h, if_neg Bool.false_ne_true] at this
      exact this
    refine ⟨_, rfl, F, rfl, small5 (by omega), _, _, rfl, rfl, _, rfl, ?_⟩
    rw [lF]
    by_cases c2 : (0 : Int) < ((figs (sg z)).length : Int)
    · refine iteY c2 ⟨_, _, rfl, rfl, _, rfl, ?_⟩
      by_cases c3 : ((figs (sg z)).length : Int) < 61
      · rw [decide_eq_true c3]
        have hl : (1 ≤ (figs (sg z)).length ∧ (figs (sg z)).length ≤ 60) := ⟨by omega, by omega⟩
        obtain ⟨c, r, er⟩ : ∃ c r, figs (sg z) = c :: r := by
          cases e : figs (sg z) with
          | nil => rw [e] at hl; simp at hl
          | cons c r => exact ⟨c, r, rfl⟩
        refine iteF ⟨_, rfl, F, rfl, comp_fil5 (n := F.cps.size) (fun _ => true) (fun i => V.bl (dig ((sg F).getD i 0))) (by have : F.cps.size = F.length := rfl; omega) (fun j H3 s3 hj => hj) (fun H3 s3 => Nat.le_refl _) ?_ ?_⟩
        · rintro j y H3 H4 Q1 Q2 hj s3 ⟨rfl, d, hd, rfl⟩ y1 y2
          refine ⟨⟨rfl, rfl⟩, _, rfl, _, _, rfl, rfl, ?_⟩
          rw [fig_in]
          have e3 : (sg F).getD j 0 = d := by
            rw [List.getD_eq_getElem?_getD]
            have : (sg F)[j]? = some d := by simpa [sg] using hd
            rw [this]
            rfl
          have := y1 rfl _ (Same.refl _)
          rw [e3] at this
          exact this
        · intro D H3 hD s3 hd
          refine ⟨D, _, rfl, SqL.of (hd.trans (by rw [fil_bl])), _, rfl, ?_⟩
          have e4 : (((List.range F.cps.size).filter fun _ => true).map fun i => dig ((sg F).getD i 0)).all id = (figs (sg z)).all dig := by
            rw [fil_all, ← eF]
            have : F.cps.size = (sg F).length := by simp [sg]
            rw [this]
            exact all_getD _ _
          rw [e4]
          by_cases c4 : (figs (sg z)).all dig = true
          · rw [c4]
            refine iteF ⟨_, rfl, F, 0, c, rfl, rfl, small5 (by omega), ?_, rfl, _, rfl, ?_⟩
            · show atI (sg F) 0 = some c
              rw [eF, er]
              exact atI_cast (j := 0) rfl rfl
            by_cases c5 : V.str ⟨#[c]⟩ = V.str (Str.ofString "0")
            · refine iteY c5 ⟨_, rfl, rfl, _, rfl, ?_⟩
              have hc : c = 48 := by
                rw [nought_eq] at c5
                have := congrArg sg (V.str.inj c5)
                simpa [sg] using this
              by_cases c6 : V.str z = V.str (Str.ofString "0")
              · rw [decide_eq_true c6]
                have e : z = Str.ofString "0" := V.str.inj c6
                have hn : numOk (sg z) = true := by rw [e]; decide +kernel
                obtain ⟨h1, h2⟩ := int_word hn
                have := q H3 s3
                unfold numW at this
                rw [if_pos hn] at this
                exact iteF ⟨_, rfl, z, _, rfl, h1, h2, this⟩
              · rw [decide_eq_false c6]
                refine iteT (no ?_ H3 s3)
                unfold numOk
                have e : (sg z == [48]) = false := beq_eq_false_iff_ne.mpr fun e => c6 (by rw [nought_eq]; exact congrArg V.str (ext_sg e))
                rw [e, er, hc]
                simp
            · refine iteZ c5 ?_
              have hc : c ≠ 48 := fun e => c5 (by rw [nought_eq, e])
              have hn : numOk (sg z) = true := by
                unfold numOk
                rw [decide_eq_true hl, c4, er]
                simp [hc]
              obtain ⟨h1, h2⟩ := int_word hn
              have := q H3 s3
              unfold numW at this
              rw [if_pos hn] at this
              exact iteF ⟨_, rfl, z, _, rfl, h1, h2, this⟩
          · rw [Bool.not_eq_true] at c4
            rw [c4]
            refine iteT (no ?_ H3 s3)
            unfold numOk
            rw [c4, Bool.and_false, Bool.false_and]
      · rw [decide_eq_false c3]
        refine iteT (iteT (no ?_ H2 (Same.refl _)))
        unfold numOk
        rw [decide_eq_false (fun h => c3 (by omega)), Bool.false_and, Bool.false_and]
    · refine iteZ c2 ⟨_, rfl, ?_⟩
      refine iteT (iteT (no ?_ H2 (Same.refl _)))
      unfold numOk
      rw [decide_eq_false (fun h => c2 (by omega)), Bool.false_and, Bool.false_and]
end
end Fk

set_option genSizeOf false
set_option genInjectivity false
namespace Fk
open PySem L2 Fm PyProof.Rows
noncomputable def wordsT (z : Str) : List Str := if sg z = [] then [] else Txt.split z blank
theorem goodB_nil : goodB [] = true := rfl
theorem inGo_row (z : Str) : inGo [] (wordsT z) = rowT z := by
  rw [inGo_eq goodB_nil]
  unfold wordsT rowT
  by_cases c : sg z = []
  · rw [if_pos c, if_pos c]
    rfl
  · rw [if_neg c, if_neg c]
    rfl
theorem numW_flat (z : Str) : flatV (numW z) = true := by
  unfold numW
  split <;> rfl
theorem numW_ok {z : Str} (h : numOk (sg z) = true) : numW z = .int (numV (sg z)) := if_pos h
theorem numW_no {z : Str} (h : numOk (sg z) = false) : numW z = .non := if_neg (by rw [h]; exact Bool.false_ne_true)
theorem in_nums (a b : Str) : inV .non [numW a, numW b] = !(numOk (sg a) && numOk (sg b)) := by
  cases ha : numOk (sg a) with
  | false => rw [numW_no ha]; rfl
  | true =>
    rw [numW_ok ha]
    cases hb : numOk (sg b) with
    | false => rw [numW_no hb]; rfl
    | true => rw [numW_ok hb]; rfl
theorem RowV.keep {H H' : Hp} {xs : List V} {r : Row} {D : Addr} {ys : List V} {o : HO} (h : RowV H xs r) (s : Same H H') (hd : H' D = some (.lst ys)) : RowV (upd H' D o) xs r := by
  refine Paired.mapP h fun v p ⟨t, e1, e2⟩ => ⟨t, e1, ?_⟩
  have z := s _ _ e2
  have n : t ≠ D := ne_of z hd (by intro e; cases e)
  rw [upd_ne n]
  exact z
section
variable {P : Program} {w : World} {K : PySem.W.Frag} {mg : Str → Option Value} {base : Heap} {eF eR eS eD eT : Addr}
theorem op_in_seqK {X : Cx} (K : PySem.W.Frag) (hK : X.K = K) : OpR X (compareOp .In) (rIn K false) := by subst hK; exact op_in_seq
noncomputable def spIn : Sp := fun vs H Q _ => ∃ z : Str, vs = [.str z] ∧ z.length ≤ 4900 ∧ (∀ r, rowT z = some r → ∀ D H', H D = none → Same H H' → RowAt H' D r → Q (.ref D) H') ∧ (rowT z = none → ∀ H', Same H H' → Q .non H')
theorem scIn : FnScope ["_law_text", "_law_row_here", "_law_word", "_law_parts"] ["_law_text"] (defScope s_law_in) := ⟨rfl, rfl, rfl, by decide +kernel, rfl, by decide +kernel, by decide +kernel⟩
theorem ok_in {f : Addr} {fd : FuncData} (F : Fun K "_law_in" "_law_in" s_law_in f fd) (B : Blt mg) (d_num : Dfn P w K mg base "_law_number" 1 ["_law_word"] spLNum) : FnOk P w K mg base CX0 2 f fd ["_law_text"] spIn := by
  refine F.ok scIn (fun vs H Q E h => ?_) (fun cdv A outer s H vs Q E hr h => ?_)
  · obtain ⟨z, rfl, _⟩ := h
    rfl
  · obtain ⟨z, rfl, hz, q1, q2⟩ := h
    refine ⟨_, (pss_cons (ps_set (i := 1) scIn.nd rfl (Or.inl rfl) (pe_lst pa_nil))
      (pss_cons (ps_for PassesOwn.never rfl (pi_list (pe_cut (pe_ifExp (pt_cmpR op_ne (pv 0) pe_str (nomark _)) (pe_bm PySem.F.plainAttrs_str PySem.F.slot_str_split PySem.F.type_str_split mt_split (pv 0) (pa_cons pe_str pa_nil)) (pe_lst pa_nil)))) (pg_name (i := 2) scIn.nd rfl (Or.inl rfl))
        (pss_cons (ps_set (i := 3) scIn.nd rfl (Or.inl rfl) (pe_bm PySem.F.plainAttrs_str PySem.F.slot_str_split PySem.F.type_str_split mt_split (pv 2) (pa_cons pe_str pa_nil)))
        (pss_cons (ps_if (PW.pt (pw_or (pt_cmpR op_ne (pe_callB (call_len_seqK K rfl) (by rfl) B.b_len boot_len (pa_cons (pv 3) pa_nil)) pe_int (nomark _)) (pw_or (pt_cmpR (op_in_seqK K rfl) pe_non (pe_comp rfl (cap := []) (own := ["_law_part"]) (CompOk.of (outer := defScope s_law_in) (N := ["_law_text", "_law_row_here", "_law_word", "_law_parts"]) rfl rfl (by decide +kernel)) (pi_list (pv 3))
            (fun _ _ _ _ => ⟨(pg_name (i := 0) (show List.Nodup (["_law_part"] : List Str) by decide +kernel) rfl (Or.inl rfl)), pf_nil, (pe_callD d_num (hr.mono (by decide)) (by rfl) (pa_cons (pv 0) pa_nil))⟩)) rfl)
            (pw_or1 (pt_cmpR op_lt (pe_callD d_num (hr.mono (by decide)) (by rfl) (pa_cons (pe_ix (ix_listK K rfl) (pv 3) pe_int (fun _ _ => rfl)) pa_nil)) pe_int (nomark _))))))
          (pss_one (ps_ret pe_non)) pss_nil)
        (pss_cons (ps_cut (ps_if (PW.pt (pw_and (pt_cmpR (op_neL hr.units) (pv 1) (pe_lst pa_nil) (nomark _)) (pw_and1 (pt_cmpR op_ge (pe_ix (ix_tupK K rfl) (pe_ix (ix_listK K rfl) (pv 1) (pe_un un_neg pe_int) (fun _ _ => rfl)) pe_int (fun _ _ => rfl)) (pe_callD d_num (hr.mono (by decide)) (by rfl) (pa_cons (pe_ix (ix_listK K rfl) (pv 3) pe_int (fun _ _ => rfl)) pa_nil)) (nomark _)))))
          (pss_one (ps_ret pe_non)) pss_nil))
        (pss_one (ps_expr (pe_bm PySem.F.plainAttrs_list PySem.F.slot_list_append PySem.F.type_list_append mt_append (pv 1) (pa_cons (pe_tup (pa_cons (pe_callD d_num (hr.mono (by decide)) (by rfl) (pa_cons (pe_ix (ix_listK K rfl) (pv 3) pe_int (fun _ _ => rfl)) pa_nil)) (pa_cons (pe_callD d_num (hr.mono (by decide)) (by rfl) (pa_cons (pe_ix (ix_listK K rfl) (pv 3) pe_int (fun _ _ => rfl)) pa_nil)) pa_nil))) pa_nil))))))))
      (pss_one (ps_ret (pv 1))))), ?_⟩
    refine ⟨zero_ok, fun D hD => ?_⟩
    have hz5 : z.length ≤ 5000 := Nat.le_trans hz (by decide)
    refine ⟨fun v H' => ∃ L, v = .ref L ∧ Same (upd H D (.lst [])) H' ∧ H' L = some (.lst ((wordsT z).map V.str)) ∧ L ≠ D, ?_, ?_⟩
    · refine ⟨_, rfl, rfl, _, rfl, ?_⟩
      by_cases c0 : V.str z = V.str (Str.ofString "")
      · rw [decide_eq_true c0]
        refine iteF ⟨zero_ok, fun L hL => ⟨L, rfl, Same.upd hL, ?_, (ne_of_none upd_same hL).symm⟩⟩
        have e : z = Str.ofString "" := V.str.inj c0
        have ew : wordsT z = [] := by rw [e]; rfl
        rw [ew]
        exact upd_same
      · rw [decide_eq_false c0]
        have z0 : ¬ sg z = [] := fun e => c0 (congrArg V.str (ext_sg (e.trans rfl)))
        obtain ⟨f1, f2, f3⟩ := split_fits (z := z) blank_len hz5
        refine iteT ⟨_, rfl, rfl, z, Str.ofString " ", rfl, rfl, by decide, small5 hz5, by rw [blank_eq]; exact f1, by rw [blank_eq]; exact Nat.le_trans f2 (by decide), fun L hL => ⟨L, rfl, Same.upd hL, ?_, (ne_of_none upd_same hL).symm⟩⟩
        rw [blank_eq, wordsT, if_neg z0]
        exact upd_same
    rintro v H1 ⟨L, rfl, s1, hL, nLD⟩
    have wl : (wordsT z).length ≤ 5001 ∧ ∀ a ∈ wordsT z, a.length ≤ 5000 := by
      unfold wordsT
      split
      · exact ⟨Nat.zero_le _, fun a h => nomatch h⟩
      · obtain ⟨f1, f2, f3⟩ := split_fits (z := z) blank_len hz5
        exact ⟨f2, f3⟩
    have ew := inGo_row z
    generalize wordsT z = ws at hL wl ew
    refine ⟨L, rfl, ⟨_, SqL.of hL⟩, for_list (K := K) (a := L) (xs := ws.map V.str) (fun i σ H2 => ∃ acc xs v1 v2, σ = [some (.str z), some (.ref D), v1, v2] ∧ Same H H2 ∧ H2 L = some (.lst (ws.map V.str)) ∧ H2 D = some (.lst xs) ∧ RowV H2 xs acc ∧ acc.length = i ∧ inGo acc (ws.drop i) = rowT z)
      ⟨[], [], none, none, rfl, (Same.upd hD).trans s1, hL, s1 _ _ upd_same, .nil, rfl, ew⟩ (fun i σ H2 _ ⟨_, _, _, _, _, _, h, _⟩ => SqL.of h) ?_ ?_⟩
    · rintro i y σ H2 hi ⟨acc, xs, v1, v2, rfl, s2, hL2, hD2, hx, hal, hgo⟩
      obtain ⟨u, hu, rfl⟩ : ∃ u, ws[i]? = some u ∧ y = V.str u := by
        rw [List.getElem?_map] at hi
        cases e : ws[i]? with
        | none => rw [e] at hi; cases hi
        | some u => rw [e] at hi; exact ⟨u, rfl, (Option.some.inj hi).symm⟩
      have hil : i < ws.length := (List.getElem?_eq_some_iff.mp hu).1
      have hul : u.length ≤ 5000 := wl.2 u (List.mem_of_getElem? hu)
      have ed : ws.drop i = u :: ws.drop (i + 1) := by
        rw [List.drop_eq_getElem_cons hil, (List.getElem?_eq_some_iff.mp hu).2]
      rw [ed] at hgo
      have hgo : (match stone? u with
        | none => none
        | some p => if p.2 < 1 then none else if (acc ≠ [] ∧ pl acc (acc.length - 1) ≥ p.1) then none else inGo (acc ++ [p]) (ws.drop (i + 1))) = rowT z := hgo
      obtain ⟨f1, f2, f3⟩ := split_fits (z := u) colon_len hul
      refine ⟨_, rfl, rfl, u, Str.ofString ":", rfl, rfl, by decide, small5 hul, by rw [colon_eq]; exact f1, by rw [colon_eq]; exact Nat.le_trans f2 (by decide), fun M hM => ?_⟩
      rw [colon_eq]
      have st : stone? u = match Txt.split u colon with
        | [a, b] => if (numOk (sg a) && numOk (sg b)) = true then some (numV (sg a), numV (sg b)) else none
        | _ => none := rfl
      generalize Txt.split u colon = ps at f2 f3 st ⊢
      have none_q : stone? u = none → ∀ H', Same H2 H' → Q .non H' := fun e H' s' => by
        rw [e] at hgo
        exact q2 hgo.symm H' (s2.trans s')
      have sM := Same.upd (o := .lst (ps.map V.str)) hM
      refine ⟨_, rfl, M, _, rfl, .inl (SqL.of upd_same), rfl, _, rfl, ?_⟩
      rw [List.length_map]
      by_cases c : ps.length = 2
      · obtain ⟨a, b, rfl⟩ : ∃ a b, ps = [a, b] := by
          match ps, c with
          | [a, b], _ => exact ⟨a, b, rfl⟩
        have st : stone? u = if (numOk (sg a) && numOk (sg b)) = true then some (numV (sg a), numV (sg b)) else none := st
        have la : a.length ≤ 5000 := f3 a (by simp)
        have lb : b.length ≤ 5000 := f3 b (by simp)
        refine iteF ⟨_, rfl, M, rfl, ⟨_, SqL.of upd_same⟩, comp_fil5 (n := 2) (fun _ => true) (fun i => [numW a, numW b].getD i .non) (by decide) (fun j H3 s3 hj => ⟨_, V.str ([a, b].getD j a), SqL.of (s3 _ _ upd_same), ?_⟩) (fun H3 s3 => ⟨_, SqL.of (s3 _ _ upd_same), Nat.le_refl _⟩) ?_ ?_⟩
        · rcases (show j = 0 ∨ j = 1 by omega) with rfl | rfl <;> rfl
        · rintro j y H3 H4 Q1 Q2 hj s3 ⟨rfl, hy⟩ y1 y2
          have hy := hy _ (SqL.of (s3 _ _ upd_same))
          rcases (show j = 0 ∨ j = 1 by omega) with rfl | rfl
          · cases hy
            exact ⟨⟨rfl, rfl⟩, _, rfl, a, rfl, la, fun H5 s5 => y1 rfl H5 s5⟩
          · cases hy
            exact ⟨⟨rfl, rfl⟩, _, rfl, b, rfl, lb, fun H5 s5 => y1 rfl H5 s5⟩
        intro D2 H3 hD2' s3 hd2
        refine ⟨D2, _, rfl, .inl (SqL.of hd2), rfl, ?_, _, rfl, ?_⟩
        · show ([numW a, numW b] : List V).all flatV = true
          rw [List.all_cons, List.all_cons, numW_flat, numW_flat]
          rfl
        have e3 : inV V.non ([numW a, numW b] : List V) = !(numOk (sg a) && numOk (sg b)) := in_nums a b
        show (if inV V.non ([numW a, numW b] : List V) = true then _ else _ : Prop)
        rw [e3]
        by_cases cn : (numOk (sg a) && numOk (sg b)) = true
        · rw [cn]
          rw [if_pos cn] at st
          rw [Bool.and_eq_true] at cn
          obtain ⟨ca, cb⟩ := cn
          rw [st] at hgo
          have hgo : (if numV (sg b) < 1 then none else if (acc ≠ [] ∧ pl acc (acc.length - 1) ≥ numV (sg a)) then none else inGo (acc ++ [(numV (sg a), numV (sg b))]) (ws.drop (i + 1))) = rowT z := hgo
          refine iteF ⟨_, rfl, M, _, 1, _, rfl, rfl, SqL.of (s3 _ _ upd_same), rfl, b, rfl, lb, fun H4 s4 => ?_⟩
          rw [numW_ok cb]
          refine ⟨_, _, rfl, rfl, _, rfl, ?_⟩
          have s4' := (sM.trans s3).trans s4
          have hM4 : H4 M = some (.lst [.str a, .str b]) := (s3.trans s4) _ _ upd_same
          by_cases c1 : numV (sg b) < 1
          · refine iteY c1 ?_
            rw [if_pos c1] at hgo
            exact q2 hgo.symm H4 (s2.trans s4')
          refine iteZ c1 ?_
          rw [if_neg c1] at hgo
          refine ⟨fun σ' H' => σ' = [some (.str z), some (.ref D), some (.str u), some (.ref M)] ∧ Same H4 H' ∧ ¬ (acc ≠ [] ∧ pl acc (acc.length - 1) ≥ numV (sg a)), ?_, ?_⟩
          · refine ⟨_, rfl, zero_ok, fun N hN => ⟨D, N, _, rfl, rfl, TwoL.rL (SqL.of ((s4'.trans (Same.upd hN)) _ _ hD2)) (RowV.same (s4'.trans (Same.upd hN)) hx) (SqL.of upd_same) .nil, _, rfl, ?_⟩⟩
            by_cases c2 : acc = []
            · rw [decide_eq_true c2]
              exact iteF (iteF ⟨rfl, Same.upd hN, fun z => z.1 c2⟩)
            · rw [decide_eq_false c2]
              have hal1 : 1 ≤ acc.length := by
                cases acc with
                | nil => exact absurd rfl c2
                | cons => simp
              obtain ⟨t, x1, h1⟩ := hx.get (i := acc.length - 1) (by omega)
              have xl := hx.length
              have hat : atI xs (-1) = some (.ref t) := by
                obtain ⟨ys, y, rfl⟩ : ∃ ys y, xs = ys ++ [y] := ⟨xs.dropLast, xs.getLast (by intro e; rw [e] at xl; simp at xl; omega), (List.dropLast_concat_getLast _).symm⟩
                rw [atI_last]
                rw [← xl] at x1
                simpa using x1
              have sN := s4'.trans (Same.upd (o := .lst []) hN)
              refine iteT ⟨_, rfl, _, rfl, D, xs, _, _, rfl, rfl, SqL.of (sN _ _ hD2), hat, t, _, 0, _, rfl, rfl, SqT.of (sN _ _ h1), rfl, _, rfl, M, _, 0, _, rfl, rfl, SqL.of ((Same.upd hN) _ _ hM4), rfl, a, rfl, la, fun H5 s5 => ?_⟩
              rw [numW_ok ca]
              refine ⟨_, _, rfl, rfl, _, rfl, ?_⟩
              by_cases c3 : numV (sg a) ≤ pl acc (acc.length - 1)
              · refine iteY c3 ?_
                rw [if_pos ⟨c2, c3⟩] at hgo
                exact q2 hgo.symm H5 (s2.trans (sN.trans s5))
              · exact iteZ c3 ⟨rfl, (Same.upd hN).trans s5, fun z => c3 z.2⟩
          rintro σ' H5 ⟨rfl, s5, c2⟩
          rw [if_neg c2] at hgo
          have s5' := s4'.trans s5
          refine ⟨_, rfl, .inl ⟨rfl, _, SqL.of (s5' _ _ hD2)⟩, _, rfl, M, _, 0, _, rfl, rfl, SqL.of (s5 _ _ hM4), rfl, a, rfl, la, fun H6 s6 => ?_⟩
          refine ⟨_, rfl, M, _, 1, _, rfl, rfl, SqL.of (s6 _ _ (s5 _ _ hM4)), rfl, b, rfl, lb, fun H7 s7 => ?_⟩
          rw [numW_ok ca, numW_ok cb]
          refine ⟨two_ok, fun t ht => ?_⟩
          have s8 := ((s5'.trans s6).trans s7).trans (Same.upd (o := .tup [.int (numV (sg a)), .int (numV (sg b))]) ht)
          have xl := hx.length
          refine ⟨D, xs, _, rfl, rfl, s8 _ _ hD2, (by rw [sizeLine_eq]; omega), ?_⟩
          refine ⟨acc ++ [(numV (sg a), numV (sg b))], xs ++ [.ref t], _, _, rfl, (s2.trans s8).upd' hD, ?_, upd_same, ?_, by rw [List.length_append, hal]; rfl, hgo⟩
          · rw [upd_ne nLD]
            exact s8 _ _ hL2
          · refine RowV.snoc (RowV.keep hx s8 (s8 _ _ hD2)) ⟨t, rfl, ?_⟩
            have n : t ≠ D := (ne_of_none (((s5'.trans s6).trans s7) _ _ hD2) ht).symm
            rw [upd_ne n]
            exact upd_same
        · rw [Bool.not_eq_true] at cn
          rw [cn]
          rw [cn, if_neg Bool.false_ne_true] at st
          exact iteT (iteT (none_q st H3 (sM.trans s3)))
      · have hst : stone? u = none := by
          rw [st]
          split
          · exact absurd rfl c
          · rfl
        have e : (!decide (V.int (ps.length : Int) = V.int 2)) = true := by
          rw [dec_len, decide_eq_false c]
          rfl
        rw [e]
        exact iteT (iteT (none_q hst _ sM))
    · rintro σ H2 ⟨acc, xs, v1, v2, rfl, s2, hL2, hD2, hx, hal, hgo⟩
      rw [List.length_map, List.drop_length] at hgo
      exact ⟨_, rfl, q1 acc hgo.symm D H2 hD s2 ⟨xs, hD2, hx⟩⟩
end
end Fk

set_option genSizeOf false
set_option genInjectivity false
namespace L2
open PySem PySem.Spec PyProof.Rows
section
variable {P : Program} {w : World} {K : PySem.W.Frag} {mg : Str → Option Value} {base : Heap} {k : Nat} {f : Addr} {fd : FuncData} {ps : List Str} {sp : Sp} {G G' : Value → Prop}
theorem CXG.to (hG : ∀ v, G v → G' v) {outer : List Env} {H : Hp} {s : Shared} {E : XK} {e : Value} {s' : Shared} (h : CXG G P w outer H s E e s') : CXG G' P w outer H s E e s' := by
  obtain ⟨x, C, B, H', e1, ho, hg, un, hok, hx, hx', F, kb, q⟩ := h
  obtain ⟨oe, vs, T, oT, ts, a1, a2, a3, ⟨cx, a4, a5⟩, a6⟩ := F.ex
  exact ⟨x, C, B, H', e1, ho, hg, un, hok, hx, hx', ⟨F.st, F.new, F.fr, ⟨oe, vs, T, oT, ts, a1, a2, a3, ⟨cx, a4, hG _ a5⟩, a6⟩⟩, kb, q⟩
theorem FnOk.toG (hG : ∀ v, G v → G' v) (F : FnOk P w K mg base (CXG G P w) k f fd ps sp) : FnOk P w K mg base (CXG G' P w) k f fd ps sp :=
  ⟨F.len, fun A outer s H args us vs Q E hr he hb r hs => codeAny_mono (F.run A outer s H args us vs Q E hr he hb r hs) fun r s' q => by
    cases r with
    | error e => exact CXG.to hG q
    | ok f => cases f <;> exact q⟩
theorem FnOk.still (F : FnOk P w K mg base (CXG G P w) k f fd ps sp) : FnOk P w K mg base CX0 k f fd ps (fun vs H Q _ => sp vs H Q fun _ _ _ => False) :=
  ⟨fun vs H Q E h => F.len vs H Q _ h, fun A outer s H args us vs Q E hr he hb r hs => codeAny_mono (F.run A outer s H args us vs Q _ hr he hb r hs) fun r s' q => by
    cases r with
    | error e =>
      obtain ⟨x, C, B, H', e1, ho, hg, un, hok, hx, hx', F, kb, q⟩ := q
      exact q.elim
    | ok f => cases f <;> exact q⟩
theorem DfnG.still {x : Str} (D : DfnG G P w K mg base x k ps sp) : Dfn P w K mg base x k ps (fun vs H Q _ => sp vs H Q fun _ _ _ => False) := by
  obtain ⟨f, fd, a, b, c, F⟩ := D
  exact ⟨f, fd, a, b, c, F.still⟩
theorem DfnG.toG {x : Str} (hG : ∀ v, G v → G' v) (D : DfnG G P w K mg base x k ps sp) : DfnG G' P w K mg base x k ps sp := by
  obtain ⟨f, fd, a, b, c, F⟩ := D
  exact ⟨f, fd, a, b, c, F.toG hG⟩
end
section
variable {X : Cx} {G : Value → Prop}
noncomputable def tTryV (G : Value → Prop) (K : PySem.W.Frag) (HC : Addr) (i : Nat) (Gs : Addr → Sp → Prop) (tf : TE) (t : TA) (th : Addr → TS) : TS := fun D σ H => tf σ H fun fv H0 => ∃ f sp, fv = .ref f ∧ Gs f sp ∧ t σ H0 fun vs H1 => ∃ E : XK, sp (vs ++ []) H1 (fun _ _ => False) E ∧
  ∀ C x H', E (.ref C) (some x) H' → H' x = none → PySem.W.exmOne K (.ref C) (.ref HC) = some true ∧ th x { nx := fun _ _ => False, rt := D.rt } (σ.set i (some (.ref x))) (upd H' x (ExcOG G x C))
theorem ps_tryV {hn n : Str} {HC : Addr} {i k : Nat} {t : TA} {tf : TE} {th : Addr → TS} {fe e : Expr} {es : List Expr} {b0 : Stmt} {bs : List Stmt} {cp ep np hp tp : Pos} (Gs : Addr → Sp → Prop) (hGs : ∀ f sp, Gs f sp → FnAt X.prog X.w X.K X.mg X.base (CXG G X.prog X.w) k f sp) (hr : Room k X.A) (hf : PE X fe tf) (ha : PA X (e :: es) t)
    (hst : X.stack = X.env :: X.outer) (hfr : X.env.frame = some X.env.locals) (hxe : X.xe = fun _ _ => False) (hH : X.mg hn = some (.ref HC)) (gH : Gl X hn) (hN : X.N.Nodup) (hi : X.N[i]? = some n) (hl : X.env.scope.names.lookup n = some .local)
    (suite : ∀ x : Addr, PSs (Xh X x) (b0 :: bs) (th x)) (hdh : (hn == ("__debug__" : Str)) = false := by decide +kernel) (he : starEach (e :: es) X.env = (false, eval e X.env) :: starEach es X.env := by rfl) (hpl : (backTo cp (starEach es X.env)).any (·.1) = false := by rfl)
    (hform : eval (.Call fe (e :: es) [] cp) X.env = (do callWith cp (← eval fe X.env) [] (backTo cp (starEach (e :: es) X.env)) (backToKw cp (keywordEach [] X.env))) := by rfl)
    (hsw : swapsWith (.Call fe (e :: es) [] cp) none ep.line X.env = pure false := by rfl) :
    PS X (.Try [.Expr (.Call fe (e :: es) [] cp) ep] [.ExceptHandler (some (.Name hn np)) (some n) (b0 :: bs) hp] [] [] tp) (tTryV G X.K HC i Gs tf t th) := by
  intro pins s σ H D I h
  refine wpAny_Try_except (wpAny_execs_cons (wpAny_Expr_any (Call_ (wpAny_mono (hf pins s σ H _ I h) (fun u s0 ⟨fv, H0, I0, r0, fa, sp, ef, g, q0⟩ => ?_) (fun e s' z => by rw [hxe] at z; exact z.elim)) hform) I.quiet hsw))
  subst ef
  cases (show u = Value.ref fa from r0)
  obtain ⟨fd, ps, hk, hb, F⟩ := hGs fa sp g
  refine PySem.W.callWith_K (h₀ := X.base) I.ok.mod.kin hk (wpAny_mono (ha cp pins s0 σ H0 _ I0 q0) (fun us s1 ⟨vs, H1, I1, r, q⟩ => ⟨I1.kIn, ?_⟩) (fun e s' z => by rw [hxe] at z; exact z.elim)) he hpl
  obtain ⟨E, q1, q2⟩ := q
  have r2 : Vals (vs ++ []) (us ++ []) := r.append .nil
  have hlen : (us ++ []).length = ps.length := by rw [← r2.length]; exact F.len _ _ _ _ q1
  refine wpAny_call (codeAny_mono (F.run X.A X.stack s1 H1 ⟨us, []⟩ (us ++ []) (vs ++ []) _ E hr I1.env0 (hb s1 us I1.kIn hlen) r2 q1) fun res s' hq => ?_)
  cases res with
  | ok fl =>
    cases fl with
    | ret u => obtain ⟨_, _, _, _, _, _, _, z⟩ := hq; exact z.elim
    | next => exact False.elim hq
    | brk => exact False.elim hq
    | cont => exact False.elim hq
  | error ev =>
    obtain ⟨x, C, B, H', rfl, ho, hgn, un, hok, hx, hx', F1, kb, q⟩ := hq
    obtain ⟨hex, qth⟩ := q2 C x H' q hx'
    have hfra : X.A.frames = some (X.env :: X.outer) := by rw [← hst]; exact I.ok.frames
    have F1' := F1
    rw [hst] at F1'
    refine note_on hfra hfr F1' fun g1 G1 U1 => land_ok G1 fun g2 G2 U2 => ?_
    have G2' : Fly G B X.stack x (.ref C) .none g2 := by rw [hst]; exact G2
    have J1 : Inv X pins σ (upd H' x (ExcOG G x C)) { s' with heap := g2 } := catch_inv I1 un hok hx hx' kb G2' (U1.trans U2) rfl ho hgn
    have J1h : Inv (Xh X x) pins σ (upd H' x (ExcOG G x C)) { s' with heap := g2 } := J1.toH
    refine wpAny_handleBy_cons (codeAny_handlers_test (ld_glob (X := Xh X x) J1h gH hH ?_ hdh)) (by intro z; cases z)
    have LT : PySem.W.Looks (model X.prog X.w) g2 (typeOf (.ref x)) (.ref C) := by
      obtain ⟨ox, II⟩ := (exc_in J1 upd_same).inst
      exact II.type
    refine (PySem.W.exm_one (M := model X.prog X.w) J1.kIn LT hex).here (s := { s' with heap := g2 }) (codeAny_handlers_suite_as ?_)
    refine land_ok G2 fun g3 G3 U3 => ?_
    have G3' : Fly G B X.stack x (.ref C) .none g3 := by rw [hst]; exact G3
    have J2 : Inv X pins σ (upd H' x (ExcOG G x C)) { s' with heap := g3 } := catch_inv I1 un hok hx hx' kb G3' ((U1.trans U2).trans U3) rfl ho hgn
    refine store_ok (X := Xh X x) (i := i) (v := .ref x) J2.toH hN hi (.inl hl) rfl (fun s2 J3 => ?_) (.inr hl)
    refine wpAny_mono (suite x pins s2 _ _ _ J3 qth) (fun fl s3 z => ?_) (fun _ _ z => z.elim)
    cases fl with
    | ret u =>
      obtain ⟨v, σ3, H3, J4, rv, qv⟩ := z
      have J5 : Inv X pins σ3 H3 s3 := ⟨I.ok, J4.os, J4.bare, J4.base, J4.loc, J4.cell, J4.free, J4.freeC, J4.pin, J4.hok, J4.len⟩
      exact gone_ok J5 hl fun s4 J6 => ⟨v, _, H3, J6, rv, qv⟩
    | next => obtain ⟨_, _, _, z⟩ := z; exact z.elim
    | brk => obtain ⟨_, _, _, z⟩ := z; exact z.elim
    | cont => obtain ⟨_, _, _, z⟩ := z; exact z.elim
end
end L2

set_option genSizeOf false
set_option genInjectivity false
namespace Fk
open PySem L2 Fm PyProof.Rows
theorem three_ok : 3 ≤ sizeLine := by decide
theorem four_ok : 4 ≤ sizeLine := by decide
section
variable {P : Program} {w : World} {K : PySem.W.Frag} {mg : Str → Option Value} {base : Heap} {eF eR eS eD eT : Addr}
noncomputable def cls2 (eR eT : Addr) (k : Int) : Addr := if k = 0 then eR else eT
theorem Ex7.cls (T : Ex7 K mg eF eR eS eD eT) {k : Int} (h : k = 0 ∨ k = 1) : ClsK7 K (cls2 eR eT k) eF eR eS eD eT k := by
  rcases h with rfl | rfl
  · exact T.kR
  · exact T.kT
noncomputable def spRef (P : Program) (w : World) (K : PySem.W.Frag) (mg : Str → Option Value) (base : Heap) (eR eT : Addr) : Sp := fun vs H Q _ => ∃ f v k sp, vs = [.ref f, v, .int k] ∧ (k = 0 ∨ k = 1) ∧ FnAt P w K mg base (CXG Ga P w) 4 f sp ∧
  sp [v] H (fun _ _ => False) (fun C _ H' => C = .ref (cls2 eR eT k) ∧ Same H H') ∧ ∀ H', Same H H' → Q (.bl true) H'
theorem scRef : FnScope ["_law_ask", "_law_thing", "_law_due", "error", "_law_found"] ["_law_ask", "_law_thing", "_law_due"] (defScope s_law_refused) := ⟨rfl, rfl, rfl, by decide +kernel, rfl, by decide +kernel, by decide +kernel⟩
theorem ok_ref {f : Addr} {fd : FuncData} (F : Fun K "_law_refused" "_law_refused" s_law_refused f fd) (B : Blt mg) (T : Ex7 K mg eF eR eS eD eT) : FnOk P w K mg base CX0 5 f fd ["_law_ask", "_law_thing", "_law_due"] (spRef P w K mg base eR eT) := by
  refine F.ok scRef (fun vs H Q E h => ?_) (fun cdv A outer s H vs Q E hr h => ?_)
  · obtain ⟨g, v, k, sp, rfl, _⟩ := h
    rfl
  · obtain ⟨g, v, k, sp, rfl, hk, hf, hs, q⟩ := h
    refine ⟨_, (pss_cons (ps_tryV (FnAt P w K mg base (CXG Ga P w) 4) (fun _ _ z => z) (hr.mono (by decide)) (pv 0) (pa_cons (pv 1) pa_nil) rfl rfl rfl T.gF (by rfl) scRef.nd (i := 3) rfl rfl
        (fun x => pss_cons (ps_set (i := 4) scRef.nd rfl (Or.inl rfl) (pe_lst (pa_cons (pe_callB (call_isiX (G := Ga) K rfl) (by rfl) B.b_isinstance boot_isinstance (pa_cons (pv 3) (pa_cons (pe_glob (v := .ref eR) rfl T.gR rfl) pa_nil))) (pa_cons (pe_callB (call_isiX (G := Ga) K rfl) (by rfl) B.b_isinstance boot_isinstance (pa_cons (pv 3) (pa_cons (pe_glob (v := .ref eT) rfl T.gT rfl) pa_nil))) (pa_cons (pe_callB (call_isiX (G := Ga) K rfl) (by rfl) B.b_isinstance boot_isinstance (pa_cons (pv 3) (pa_cons (pe_glob (v := .ref eD) rfl T.gD rfl) pa_nil))) pa_nil)))))
          (pss_one (ps_ret (pe_cmpR (op_eqL hr.units) (pe_op op_cat (pv 4) (pe_lst (pa_cons (pe_callB (call_isiX (G := Ga) K rfl) (by rfl) B.b_isinstance boot_isinstance (pa_cons (pv 3) (pa_cons (pe_glob (v := .ref eS) rfl T.gS rfl) pa_nil))) pa_nil)))
              (pe_lst (pa_cons (pe_cmpR op_eq (pv 2) pe_int (nomark _)) (pa_cons (pe_cmpR op_eq (pv 2) pe_int (nomark _)) (pa_cons pe_bl (pa_cons pe_bl pa_nil))))) (nomark _))))))
      (pss_one (ps_ret pe_bl))), ?_⟩
    refine ⟨_, rfl, g, sp, rfl, hf, _, rfl, fun C _ H' => C = .ref (cls2 eR eT k) ∧ Same H H', hs, ?_⟩
    rintro C x H1 ⟨ec, s1⟩ hx
    have ec := Value.ref.inj ec
    subst ec
    have Z := T.cls hk
    refine ⟨Z.hF, ?_⟩
    have u0 : ∀ {H2 : Hp}, Same (L2.upd H1 x (ExcOG Ga x (cls2 eR eT k))) H2 → H2 x = some (ExcOG Ga x (cls2 eR eT k)) := fun z => z _ _ upd_same
    refine ⟨_, rfl, x, _, eR, _, rfl, u0 (Same.refl _), Z.ex, Z.tR, _, rfl, x, _, eT, _, rfl, u0 (Same.refl _), Z.ex, Z.tT, _, rfl, x, _, eD, _, rfl, u0 (Same.refl _), Z.ex, Z.tD, three_ok, fun p hp => ?_⟩
    refine ⟨_, rfl, _, rfl, x, _, eS, _, rfl, u0 (Same.upd hp), Z.ex, Z.tS, one_ok, fun p1 hp1 => ⟨p, p1, _, _, rfl, rfl, (Same.upd hp1) _ _ upd_same, upd_same, four_ok, fun p2 hp2 => ?_⟩⟩
    refine ⟨_, rfl, rfl, _, rfl, rfl, four_ok, fun p3 hp3 => ?_⟩
    refine ⟨p2, p3, _, rfl, rfl, .bL (ns := [decide (k = 0), decide (k = 1), false, false]) (ms := [decide (k = 0), decide (k = 1), false, false]) (SqL.of ((Same.upd hp3) _ _ upd_same)) (SqL.of (upd_same.trans ?_)), ?_⟩
    · rw [dec_ints, dec_ints]
      rfl
    rw [decide_eq_true rfl]
    exact q _ (s1.trans ((((Same.upd hx).trans (Same.upd hp)).trans (Same.upd hp1)).trans ((Same.upd hp2).trans (Same.upd hp3))))
end
end Fk

set_option genSizeOf false
set_option genInjectivity false
namespace Fk
open PySem L2 Fm PyProof.Rows
theorem stones_short : ∀ {ws : List Str} {r : Row}, stones? ws = some r → Short r
  | [], r, h => by cases h; exact fun p hp => nomatch hp
  | v :: ws, r, h => by
    obtain ⟨p, hp, h⟩ := Option.bind_eq_some_iff.mp h
    obtain ⟨q, hq, rfl⟩ := Option.map_eq_some_iff.mp h
    obtain ⟨a, b, _, h1, h2, rfl⟩ := stone_some hp
    intro p' hp'
    rcases List.mem_cons.mp hp' with rfl | hp'
    · exact ⟨numV_small h1, numV_small h2⟩
    · exact stones_short hq p' hp'
theorem rowT_facts {z : Str} {r : Row} (h : rowT z = some r) (hz : z.length ≤ 4900) : Good r ∧ Short r ∧ r.length ≤ 4901 := by
  unfold rowT at h
  split at h
  · cases h
    exact ⟨⟨fun i j h1 h2 => absurd h2 (by simp), fun i h1 => absurd h1 (by simp)⟩, (fun p hp => nomatch hp), Nat.zero_le _⟩
  · obtain ⟨q, hq, h⟩ := Option.bind_eq_some_iff.mp h
    split at h
    · rename_i g
      cases h
      refine ⟨goodB_iff.mp g, stones_short hq, ?_⟩
      have e := congrArg List.length (stones_text hq)
      rw [List.length_map] at e
      have := (join_ge blank (Txt.split z blank)).2 blank_len
      rw [StrLaws.join_split] at this
      omega
    · cases h
section
variable {P : Program} {w : World} {K : PySem.W.Frag} {mg : Str → Option Value} {base : Heap} {eF eR eS eD eT : Addr}
noncomputable def spRight7 : Sp := fun vs H Q _ => ∃ z : Str, vs = [.str z] ∧ z.length ≤ 4900 ∧ ∀ H', Same H H' → Q (.bl true) H'
theorem scRight7 : FnScope ["_law_text", "_law_due", "_law_found"] ["_law_text"] (defScope sRight) := ⟨rfl, rfl, rfl, by decide +kernel, rfl, by decide +kernel, by decide +kernel⟩
theorem ok_right7 {f : Addr} {fd : FuncData} (F : Fun K "_law_right" "_law_right" sRight f fd) (B : Blt mg) (d_in : Dfn P w K mg base "_law_in" 2 ["_law_text"] spIn) (d_ref : Dfn P w K mg base "_law_refused" 5 ["_law_ask", "_law_thing", "_law_due"] (spRef P w K mg base eR eT))
    (d_read : DfnG Ga P w K mg base "read" 4 ["text"] (spRead K eT)) (d_wri : DfnE P w K mg base "written" 4 ["row"] (spWri eR)) : FnOk P w K mg base CX0 6 f fd ["_law_text"] spRight7 := by
  obtain ⟨fr, mr, ar⟩ := d_read.at
  have d_read0 := d_read.still
  have d_wri0 := d_wri.still
  refine F.ok scRight7 (fun vs H Q E h => ?_) (fun cdv A outer s H vs Q E hr h => ?_)
  · obtain ⟨z, rfl, _⟩ := h
    rfl
  · obtain ⟨z, rfl, hz, q⟩ := h
    refine ⟨_, (pss_cons (ps_set (i := 1) scRight7.nd rfl (Or.inl rfl) (pe_callD d_in (hr.mono (by decide)) (by rfl) (pa_cons (pv 0) pa_nil)))
      (pss_cons (ps_if (pt_cmpR op_isN (pv 1) pe_non (nomark _)) (pss_one (ps_ret (pe_callD d_ref (hr.mono (by decide)) (by rfl) (pa_cons (pe_glob (v := .ref fr) (by rfl) mr rfl) (pa_cons (pv 0) (pa_cons pe_int pa_nil)))))) pss_nil)
      (pss_cons (ps_set (i := 2) scRight7.nd rfl (Or.inl rfl) (pe_callD d_read0 (hr.mono (by decide)) (by rfl) (pa_cons (pv 0) pa_nil)))
      (pss_cons (ps_if (PW.pt (pw_or (pt_not (pt_val (pe_callB (call_isiK K rfl) (by rfl) B.b_isinstance boot_isinstance (pa_cons (pv 2) (pa_cons (pe_bltn (v := .ty "list") rfl B.b_list boot_list rfl) pa_nil))))) (pw_or (pt_cmpR (op_neL hr.units) (pv 2) (pv 1) (nomark _)) (pw_or1 (pt_cmpR op_ne (pe_callD d_wri0 (hr.mono (by decide)) (by rfl) (pa_cons (pv 2) pa_nil)) (pv 0) (nomark _))))))
        (pss_one (ps_ret pe_bl)) pss_nil)
      (pss_cons (ps_if (pt_not (pt_val (pe_callB (call_allB rfl) (by rfl) B.b_all boot_all (pa_cons (pe_comp rfl (cap := []) (own := ["_law_stone"]) (CompOk.of (outer := defScope sRight) (N := ["_law_text", "_law_due", "_law_found"]) rfl rfl (by decide +kernel)) (pi_list (pv 2))
        (fun _ _ _ _ => ⟨(pg_name (i := 0) (show List.Nodup (["_law_stone"] : List Str) by decide +kernel) rfl (Or.inl rfl)), pf_nil, (pe_callB (call_isiK K rfl) (by rfl) B.b_isinstance boot_isinstance (pa_cons (pv 0) (pa_cons (pe_bltn (v := .ty "tuple") rfl B.b_tuple boot_tuple rfl) pa_nil)))⟩)) pa_nil))))
        (pss_one (ps_ret pe_bl)) pss_nil)
      (pss_cons (ps_expr (pe_bm PySem.F.plainAttrs_list PySem.F.slot_list_append PySem.F.type_list_append mt_append (pv 2) (pa_cons (pe_tup (pa_cons pe_int (pa_cons pe_int pa_nil))) pa_nil)))
      (pss_one (ps_ret (pe_cmpR (op_eqL hr.units) (pe_callD d_read0 (hr.mono (by decide)) (by rfl) (pa_cons (pv 0) pa_nil)) (pv 1) (nomark _)))))))))), ?_⟩
    refine ⟨_, rfl, z, rfl, hz, fun r hr0 D1 H1 hD1 s1 ⟨xs, hx1, hx⟩ => ?_, fun hn H1 s1 => ?_⟩
    · obtain ⟨g, sh, rl⟩ := rowT_facts hr0 hz
      refine ⟨_, rfl, rfl, _, rfl, iteF ?_⟩
      refine ⟨_, rfl, _, rfl, .inl ⟨z, rfl, hz, fun r' hr' D2 H2 hD2 s2 ⟨ys, hy2, hy⟩ => ?_, fun e => by rw [hr0] at e; cases e⟩⟩
      rw [hr0] at hr'
      cases hr'
      refine ⟨_, rfl, _, _, _, true, rfl, TyOf.lst hy2, kitB (by decide +kernel), _, rfl, iteF ?_⟩
      refine ⟨_, rfl, _, rfl, D2, D1, _, rfl, rfl, TwoL.rL (SqL.of hy2) hy (SqL.of (s2 _ _ hx1)) (RowV.same s2 hx), _, rfl, ?_⟩
      rw [decide_eq_true rfl]
      refine iteF ⟨_, rfl, D2, r, rfl, ⟨ys, hy2, hy⟩, by omega, g, fun _ H3 s3 => ?_, fun n => absurd sh n⟩
      rw [rowT_text hr0]
      refine ⟨_, rfl, rfl, _, rfl, ?_⟩
      rw [decide_eq_true rfl]
      refine iteF ?_
      have hyl := hy.length
      refine ⟨_, rfl, D2, rfl, ⟨_, SqL.of (s3 _ _ hy2)⟩, comp_fil5 (n := ys.length) (fun _ => true) (fun _ => V.bl true) (by omega) (fun j H4 s4 hj => ⟨ys, _, SqL.of (s4 _ _ (s3 _ _ hy2)), List.getElem?_eq_getElem hj⟩) (fun H4 s4 => ⟨ys, SqL.of (s4 _ _ (s3 _ _ hy2)), Nat.le_refl _⟩) ?_ ?_⟩
      · rintro j y H4 H5 Q1 Q2 hj s4 ⟨rfl, hy'⟩ y1 y2
        obtain ⟨p, e1, t, rfl, e2⟩ := paired_get hy j (hy' ys (SqL.of (s4 _ _ (s3 _ _ hy2))))
        exact ⟨⟨rfl, rfl⟩, _, rfl, _, _, _, true, rfl, TyOf.tup (s4 _ _ (s3 _ _ e2)), kitB (by decide +kernel), y1 rfl _ (Same.refl _)⟩
      · intro M H4 hM s4 hm
        refine ⟨M, _, rfl, SqL.of (hm.trans (by rw [fil_bl (fun _ => true)])), _, rfl, ?_⟩
        have e4 : (((List.range ys.length).filter fun _ => true).map fun _ => true).all id = true := by simp
        rw [e4]
        refine iteF ?_
        have s24 := s3.trans s4
        refine ⟨_, rfl, .inl ⟨rfl, _, SqL.of (s24 _ _ hy2)⟩, two_ok, fun t ht => ?_⟩
        have s25 := s24.trans (Same.upd (o := .tup [.int 0, .int 0]) ht)
        refine ⟨D2, ys, _, rfl, rfl, s25 _ _ hy2, (by rw [sizeLine_eq]; omega), ?_⟩
        refine ⟨_, rfl, _, rfl, .inl ⟨z, rfl, hz, fun r' hr' D3 H6 hD3 s6 ⟨zs, hz6, hzr⟩ => ?_, fun e => by rw [hr0] at e; cases e⟩⟩
        rw [hr0] at hr'
        cases hr'
        have n12 : D1 ≠ D2 := ne_of_none hx1 hD2
        have due := RowV.keep (o := .lst (ys ++ [.ref t])) hx (s2.trans s25) (s25 _ _ hy2)
        refine ⟨_, rfl, D3, D1, _, rfl, rfl, TwoL.rL (SqL.of hz6) hzr (SqL.of (s6 _ _ ?_)) (RowV.same s6 due), ?_⟩
        · rw [upd_ne n12]
          exact (s2.trans s25) _ _ hx1
        rw [decide_eq_true rfl]
        exact q H6 (((s1.trans (s2.trans s25)).upd' (s1.none hD2)).trans s6)
    · refine ⟨_, rfl, rfl, _, rfl, iteT ?_⟩
      refine ⟨_, rfl, fr, _, 1, _, rfl, .inr rfl, ar, ⟨_, rfl, .inl ⟨z, rfl, hz, fun r e => (by rw [hn] at e; cases e), fun _ x H' s' => ⟨rfl, s'⟩⟩⟩, fun H' s' => q H' (s1.trans s')⟩
end
end Fk

set_option genSizeOf false
set_option genInjectivity false
namespace Fk
open PySem L2 Fm PyProof.Rows
noncomputable def AllT (vs : List V) : Prop := ∀ v ∈ vs, ∃ a : Str, v = .str a ∧ a.length ≤ 4900
theorem allT_nil : AllT [] := fun v h => nomatch h
theorem allT_cons {a : Str} {vs : List V} (h : a.length ≤ 4900) (t : AllT vs) : AllT (V.str a :: vs) := fun v hv => by
  rcases List.mem_cons.mp hv with rfl | hv
  · exact ⟨a, rfl, h⟩
  · exact t v hv
theorem allT_app {vs us : List V} (h : AllT vs) (t : AllT us) : AllT (vs ++ us) := fun v hv => (List.mem_append.mp hv).elim (h v) (t v)
theorem mul_ok {x : Str} {n : Int} (hx : x.length ≤ 1) (h0 : 2 ≤ n) (h : n ≤ 4000) : MulOk x n := by
  refine ⟨?_, fun _ _ => ?_, fun _ _ => ?_⟩
  · rw [decide_eq_false (by omega), decide_eq_false (by omega)]
    rfl
  · have e : (1 : Int) ≤ (2 ^ 63 - 1) / n := by
      rw [Int.le_ediv_iff_mul_le (by omega)]
      omega
    omega
  · unfold Builtin.Str.tooLong
    rw [decide_eq_false_iff_not, sizeLine_eq]
    have : x.length * n.toNat ≤ 1 * 4000 := Nat.mul_le_mul hx (by omega)
    omega
theorem mul_len {x : Str} {n : Int} (hx : x.length ≤ 1) (N : Nat) (h : n ≤ (N : Int)) : (Txt.mul x n).length ≤ N := by
  have := len_mul_leN (L := 1) (N := N) hx h
  omega
section
variable {X : Cx}
noncomputable def tTx (m : Nat) : TE := fun σ H Q => ∀ a : Str, a.length ≤ m → Q (.str a) H
noncomputable def tTxs (n : Nat) : TA := fun σ H Q => ∀ us, AllT us → us.length = n → Q us H
theorem tx_weak {e : Expr} {m n : Nat} (h : PE X e (tTx m)) (le : m ≤ n) : PE X e (tTx n) := fun pins s σ H Q I q => h pins s σ H Q I fun a ha => q a (Nat.le_trans ha le)
theorem tx_str {x : Str} {j : Nat} {pos : Pos} {m : Nat} (h : x.length ≤ m) : PE X (.Constant (.str x) j pos) (tTx m) := fun pins s σ H Q I q => pe_str pins s σ H Q I (q x h)
theorem tx_mul {x : Str} {n : Int} {j i : Nat} {p q pos : Pos} (hx : x.length ≤ 1) (h0 : 2 ≤ n) (h : n ≤ 4000) (N : Nat) (hN : n ≤ (N : Int) := by decide) : PE X (.BinOp (.Constant (.str x) j p) .Mult (.Constant (.int n) i q) pos) (tTx N) :=
  fun pins s σ H Q I r => pe_op op_mul_str pe_str pe_int pins s σ H Q I ⟨x, n, rfl, rfl, mul_ok hx h0 h, r _ (mul_len hx N hN)⟩
theorem tx_add {a b : Expr} {pos : Pos} {m n : Nat} (ha : PE X a (tTx m)) (hb : PE X b (tTx n)) (h : m + n ≤ 4900) : PE X (.BinOp a .Add b pos) (tTx (m + n)) :=
  fun pins s σ H Q I r => pe_op op_add_str ha hb pins s σ H Q I fun x hx y hy => ⟨x, y, rfl, rfl, by rw [sizeLine_eq]; omega, r _ (by rw [strLen_append]; omega)⟩
theorem txs_nil : PA X [] (tTxs 0) := fun pos pins s σ H Q I q => pa_nil pos pins s σ H Q I (q [] allT_nil rfl)
theorem txs_cons {e : Expr} {es : List Expr} {n : Nat} (ns : NoStar e) (h : PE X e (tTx 4900)) (t : PA X es (tTxs n)) : PA X (e :: es) (tTxs (n + 1)) :=
  fun pos pins s σ H Q I q => pa_cons h t (ns es X.env) pos pins s σ H Q I fun a ha us hu hl => q _ (allT_cons ha hu) (by rw [List.length_cons, hl])
noncomputable def TC (t : TS) : TS := fun D σ H => ∃ R : L2.St → Hp → Prop, t { D with nx := R } σ H ∧ ∀ σ' H', R σ' H' → D.nx σ' H'
theorem ps_cutT {st : Stmt} {t : TS} (h : PS X st t) : PS X st (TC t) := ps_cut h
end
section
variable {P : Program} {w : World} {K : PySem.W.Frag} {mg : Str → Option Value} {base : Heap} {eF eR eS eD eT : Addr}
noncomputable def spFew7 : Sp := fun vs H Q _ => vs = [] ∧ ∀ D H' us, Same H H' → H' D = some (.lst us) → AllT us → us.length ≤ 100 → Q (.ref D) H'
theorem scFew7 : FnScope ["_law_some"] [] (defScope s_law_few) := ⟨rfl, rfl, rfl, by decide +kernel, rfl, by decide +kernel, by decide +kernel⟩
noncomputable def J7 (n : Nat) (H : Hp) (σ : L2.St) (H' : Hp) : Prop := ∃ D us, σ = [some (V.ref D)] ∧ Same H H' ∧ H' D = some (.lst us) ∧ AllT us ∧ us.length = n
theorem ok_few7 {f : Addr} {fd : FuncData} (F : Fun K "_law_few" "_law_few" s_law_few f fd) : FnOk P w K mg base CX0 1 f fd [] spFew7 := by
  refine F.ok scFew7 (fun vs H Q E h => ?_) (fun cdv A outer s H vs Q E hr h => ?_)
  · obtain ⟨rfl, _⟩ := h
    rfl
  · obtain ⟨rfl, q⟩ := h
    refine ⟨(tSeq (TC (tAsg (tLst (tTxs 13)) (gName 0))) (tSeq (TC (tAsg (tOp rCat (tVar 0) (tLst (tTxs 11))) (gName 0))) (tSeq (TC (tAsg (tOp rCat (tVar 0) (tLst (tTxs 2))) (gName 0))) (tSeq (TC (tAsg (tOp rCat (tVar 0) (tLst (tTxs 7))) (gName 0))) (tRet (tOp rCat (tVar 0) (tLst (tTxs 3)))))))), ?_, ?_⟩
    · refine pss_cons ?_ ?_
      refine ps_cutT ?_
      refine ps_set (i := 0) ?_ ?_ ?_ ?_ ?_ ?_
      exact scFew7.nd
      exact rfl
      exact Or.inl rfl
      refine pe_lst ?_
      refine txs_cons ?_ ?_ ?_
      exact ns_con
      exact tx_str (Nat.le_of_ble_eq_true rfl)
      refine txs_cons ?_ ?_ ?_
      exact ns_con
      exact tx_str (Nat.le_of_ble_eq_true rfl)
      refine txs_cons ?_ ?_ ?_
      exact ns_con
      exact tx_str (Nat.le_of_ble_eq_true rfl)
      refine txs_cons ?_ ?_ ?_
      exact ns_con
      exact tx_str (Nat.le_of_ble_eq_true rfl)
      refine txs_cons ?_ ?_ ?_
      exact ns_con
      exact tx_str (Nat.le_of_ble_eq_true rfl)
      refine txs_cons ?_ ?_ ?_
      exact ns_con
      exact tx_str (Nat.le_of_ble_eq_true rfl)
      refine txs_cons ?_ ?_ ?_
      exact ns_con
      exact tx_str (Nat.le_of_ble_eq_true rfl)
      refine txs_cons ?_ ?_ ?_
      exact ns_con
      exact tx_str (Nat.le_of_ble_eq_true rfl)
      refine txs_cons ?_ ?_ ?_
      exact ns_con
      exact tx_str (Nat.le_of_ble_eq_true rfl)
      refine txs_cons ?_ ?_ ?_
      exact ns_con
      exact tx_str (Nat.le_of_ble_eq_true rfl)
      refine txs_cons ?_ ?_ ?_
      exact ns_con
      exact tx_str (Nat.le_of_ble_eq_true rfl)
      refine txs_cons ?_ ?_ ?_
      exact ns_con
      exact tx_str (Nat.le_of_ble_eq_true rfl)
      refine txs_cons ?_ ?_ ?_
      exact ns_con
      exact tx_str (Nat.le_of_ble_eq_true rfl)
      exact txs_nil
      exact rfl
      exact .inl rfl
      refine pss_cons ?_ ?_
      refine ps_cutT ?_
      refine ps_set (i := 0) ?_ ?_ ?_ ?_ ?_ ?_
      exact scFew7.nd
      exact rfl
      exact Or.inl rfl
      refine pe_op ?_ ?_ ?_
      exact op_cat
      exact pv 0
      refine pe_lst ?_
      refine txs_cons ?_ ?_ ?_
      exact ns_con
      exact tx_str (Nat.le_of_ble_eq_true rfl)
      refine txs_cons ?_ ?_ ?_
      exact ns_con
      exact tx_str (Nat.le_of_ble_eq_true rfl)
      refine txs_cons ?_ ?_ ?_
      exact ns_con
      exact tx_str (Nat.le_of_ble_eq_true rfl)
      refine txs_cons ?_ ?_ ?_
      exact ns_con
      exact tx_str (Nat.le_of_ble_eq_true rfl)
      refine txs_cons ?_ ?_ ?_
      exact ns_con
      exact tx_str (Nat.le_of_ble_eq_true rfl)
      refine txs_cons ?_ ?_ ?_
      exact ns_con
      exact tx_str (Nat.le_of_ble_eq_true rfl)
      refine txs_cons ?_ ?_ ?_
      exact ns_con
      exact tx_str (Nat.le_of_ble_eq_true rfl)
      refine txs_cons ?_ ?_ ?_
      exact ns_con
      exact tx_str (Nat.le_of_ble_eq_true rfl)
      refine txs_cons ?_ ?_ ?_
      exact ns_con
      exact tx_str (Nat.le_of_ble_eq_true rfl)
      refine txs_cons ?_ ?_ ?_
      exact ns_con
      exact tx_str (Nat.le_of_ble_eq_true rfl)
      refine txs_cons ?_ ?_ ?_
      exact ns_con
      exact tx_str (Nat.le_of_ble_eq_true rfl)
      exact txs_nil
      exact rfl
      exact .inl rfl
      refine pss_cons ?_ ?_
      refine ps_cutT ?_
      refine ps_set (i := 0) ?_ ?_ ?_ ?_ ?_ ?_
      exact scFew7.nd
      exact rfl
      exact Or.inl rfl
      refine pe_op ?_ ?_ ?_
      exact op_cat
      exact pv 0
      refine pe_lst ?_
      refine txs_cons ?_ ?_ ?_
      exact ns_con
      exact tx_str (Nat.le_of_ble_eq_true rfl)
      refine txs_cons ?_ ?_ ?_
      exact ns_con
      exact tx_str (Nat.le_of_ble_eq_true rfl)
      exact txs_nil
      exact rfl
      exact .inl rfl
      refine pss_cons ?_ ?_
      refine ps_cutT ?_
      refine ps_set (i := 0) ?_ ?_ ?_ ?_ ?_ ?_
      exact scFew7.nd
      exact rfl
      exact Or.inl rfl
      refine pe_op ?_ ?_ ?_
      exact op_cat
      exact pv 0
      refine pe_lst ?_
      refine txs_cons ?_ ?_ ?_
      exact ns_con
      exact tx_str (Nat.le_of_ble_eq_true rfl)
      refine txs_cons ?_ ?_ ?_
      exact ns_con
      exact tx_str (Nat.le_of_ble_eq_true rfl)
      refine txs_cons ?_ ?_ ?_
      exact ns_con
      exact tx_str (Nat.le_of_ble_eq_true rfl)
      refine txs_cons ?_ ?_ ?_
      exact ns_con
      exact tx_str (Nat.le_of_ble_eq_true rfl)
      refine txs_cons ?_ ?_ ?_
      exact ns_bin
      refine tx_weak ?_ (m := 80) (by decide)
      refine tx_add (m := 70) (n := 10) ?_ ?_ (by decide)
      refine tx_add (m := 10) (n := 60) ?_ ?_ (by decide)
      exact tx_str (Nat.le_of_ble_eq_true rfl)
      exact tx_mul (Nat.le_of_ble_eq_true rfl) (by decide) (by decide) 60
      exact tx_str (Nat.le_of_ble_eq_true rfl)
      refine txs_cons ?_ ?_ ?_
      exact ns_bin
      refine tx_weak ?_ (m := 81) (by decide)
      refine tx_add (m := 71) (n := 10) ?_ ?_ (by decide)
      refine tx_add (m := 10) (n := 61) ?_ ?_ (by decide)
      exact tx_str (Nat.le_of_ble_eq_true rfl)
      exact tx_mul (Nat.le_of_ble_eq_true rfl) (by decide) (by decide) 61
      exact tx_str (Nat.le_of_ble_eq_true rfl)
      refine txs_cons ?_ ?_ ?_
      exact ns_bin
      refine tx_weak ?_ (m := 70) (by decide)
      refine tx_add (m := 10) (n := 60) ?_ ?_ (by decide)
      exact tx_str (Nat.le_of_ble_eq_true rfl)
      exact tx_mul (Nat.le_of_ble_eq_true rfl) (by decide) (by decide) 60
      exact txs_nil
      exact rfl
      exact .inl rfl
      refine pss_one ?_
      refine ps_ret ?_
      refine pe_op ?_ ?_ ?_
      exact op_cat
      exact pv 0
      refine pe_lst ?_
      refine txs_cons ?_ ?_ ?_
      exact ns_bin
      refine tx_weak ?_ (m := 71) (by decide)
      refine tx_add (m := 10) (n := 61) ?_ ?_ (by decide)
      exact tx_str (Nat.le_of_ble_eq_true rfl)
      exact tx_mul (Nat.le_of_ble_eq_true rfl) (by decide) (by decide) 61
      refine txs_cons ?_ ?_ ?_
      exact ns_bin
      refine tx_weak ?_ (m := 4010) (by decide)
      refine tx_add (m := 4000) (n := 10) ?_ ?_ (by decide)
      exact tx_mul (Nat.le_of_ble_eq_true rfl) (by decide) (by decide) 4000
      exact tx_str (Nat.le_of_ble_eq_true rfl)
      refine txs_cons ?_ ?_ ?_
      exact ns_bin
      refine tx_weak ?_ (m := 80) (by decide)
      refine tx_add (m := 70) (n := 10) ?_ ?_ (by decide)
      refine tx_add (m := 10) (n := 60) ?_ ?_ (by decide)
      exact tx_str (Nat.le_of_ble_eq_true rfl)
      exact tx_mul (Nat.le_of_ble_eq_true rfl) (by decide) (by decide) 60
      exact tx_str (Nat.le_of_ble_eq_true rfl)
      exact txs_nil
    refine ⟨J7 13 H, ?_, ?_⟩
    · exact fun us au lu => ⟨by rw [lu]; decide, fun p hp => ⟨p, _, rfl, Same.upd hp, upd_same, au, by omega⟩⟩
    rintro σ H1 ⟨D1, us1, rfl, s1, h1, a1, l1⟩
    refine ⟨J7 24 H, ?_, ?_⟩
    · refine ⟨_, rfl, fun us au lu => ⟨by rw [lu]; decide, fun p hp => ⟨D1, p, us1, us, rfl, rfl, (Same.upd hp) _ _ h1, upd_same, by rw [sizeLine_eq]; omega, fun p2 hp2 => ⟨p2, _, rfl, (s1.trans (Same.upd hp)).trans (Same.upd hp2), upd_same, allT_app a1 au, by rw [List.length_append]; omega⟩⟩⟩⟩
    rintro σ H1 ⟨D1, us1, rfl, s1, h1, a1, l1⟩
    refine ⟨J7 26 H, ?_, ?_⟩
    · refine ⟨_, rfl, fun us au lu => ⟨by rw [lu]; decide, fun p hp => ⟨D1, p, us1, us, rfl, rfl, (Same.upd hp) _ _ h1, upd_same, by rw [sizeLine_eq]; omega, fun p2 hp2 => ⟨p2, _, rfl, (s1.trans (Same.upd hp)).trans (Same.upd hp2), upd_same, allT_app a1 au, by rw [List.length_append]; omega⟩⟩⟩⟩
    rintro σ H1 ⟨D1, us1, rfl, s1, h1, a1, l1⟩
    refine ⟨J7 33 H, ?_, ?_⟩
    · refine ⟨_, rfl, fun us au lu => ⟨by rw [lu]; decide, fun p hp => ⟨D1, p, us1, us, rfl, rfl, (Same.upd hp) _ _ h1, upd_same, by rw [sizeLine_eq]; omega, fun p2 hp2 => ⟨p2, _, rfl, (s1.trans (Same.upd hp)).trans (Same.upd hp2), upd_same, allT_app a1 au, by rw [List.length_append]; omega⟩⟩⟩⟩
    rintro σ H1 ⟨D1, us1, rfl, s1, h1, a1, l1⟩
    refine ⟨_, rfl, fun us au lu => ⟨by rw [lu]; decide, fun p hp => ⟨D1, p, us1, us, rfl, rfl, (Same.upd hp) _ _ h1, upd_same, by rw [sizeLine_eq]; omega, fun p2 hp2 => ?_⟩⟩⟩
    exact q p2 _ _ ((s1.trans (Same.upd hp)).trans (Same.upd hp2)) upd_same (allT_app a1 au) (by rw [List.length_append]; omega)
end
end Fk

set_option genSizeOf false
set_option genInjectivity false
namespace Fk
open PySem L2 Fm PyProof.Rows
noncomputable def AllI (vs : List V) : Prop := ∀ v ∈ vs, ∃ i : Int, v = .int i
theorem allI_map (ns : List Int) : AllI (ns.map V.int) := fun v h => by
  obtain ⟨i, _, e⟩ := List.mem_map.mp h
  exact ⟨i, e.symm⟩
theorem allI_cut {vs : List V} (h : AllI vs) (lo hi : Option Int) : AllI (cutV vs lo hi) := fun v hv => h v (List.mem_of_mem_drop (List.mem_of_mem_take hv))
theorem allI_pick {vs : List V} (h : AllI vs) (lo hi st : Option Int) : AllI (pickV vs lo hi st) := fun v hv => by
  unfold pickV at hv
  obtain ⟨k, _, e⟩ := List.mem_filterMap.mp hv
  exact h v (List.mem_of_getElem? e)
theorem allI_app {vs us : List V} (h : AllI vs) (t : AllI us) : AllI (vs ++ us) := fun v hv => (List.mem_append.mp hv).elim (h v) (t v)
theorem five_bounds (j n : Nat) : sliceBounds (some (j : Int)) none (some 5) n = (((min j n : Nat) : Int), (n : Int), 5) := by
  simp only [sliceBounds, Option.getD_some]
  refine Prod.ext ?_ ?_
  · show (if _ then _ else _) = _
    show _ = ((min j n : Nat) : Int)
    rw [if_neg (by omega : ¬ (j : Int) < 0), Int.min_def]
    repeat' split
    all_goals omega
  · rfl
theorem pick5_len {α : Type} (xs : List α) (j : Nat) : (pickV xs (some (j : Int)) none (some 5)).length ≤ xs.length := by
  unfold pickV
  rw [five_bounds]
  refine Nat.le_trans (List.length_filterMap_le _ _) ?_
  show (sliceRange ((min j xs.length : Nat) : Int) (xs.length : Int) 5).length ≤ _
  unfold sliceRange
  rw [List.length_map, List.length_range, if_pos (by decide)]
  split <;> omega
theorem slice_to_len {z : Str} {i : Int} (h : 0 ≤ i ∧ i ≤ (z.length : Int)) : ((Txt.slice z none (some i)).length : Int) = i := by
  have e := StrLaws.sliceText_to (x := z) (j := i) ⟨h.1, by rw [Array.length_toList]; exact h.2⟩
  have e2 : Txt.slice z none (some i) = StrLaws.sliceText z none (some i) := rfl
  rw [e2, e]
  have h2 := h.2
  simp only [Str.length] at h2 ⊢
  rw [List.size_toArray, List.length_take, List.drop_zero, Array.length_toList]
  omega
theorem slice_from_len {z : Str} {i : Int} (h : 0 ≤ i) : (Txt.slice z (some i) none).length ≤ z.length - i.toNat := by
  have e2 : Txt.slice z (some i) none = StrLaws.sliceText z (some i) none := rfl
  rw [e2]
  by_cases c : i ≤ (z.length : Int)
  · have e := StrLaws.sliceText_from (x := z) (i := i) ⟨h, by rw [Array.length_toList]; exact c⟩
    rw [e]
    simp only [Str.length] at c ⊢
    rw [List.size_toArray, List.length_take, List.length_drop, Array.length_toList]
    omega
  · have e3 : StrLaws.sliceText z (some i) none = StrLaws.sliceText z (some (z.length : Int)) none := by
      unfold StrLaws.sliceText
      have e4 : Builtin.Str.strSliceIndices (some i) none 1 z.length = Builtin.Str.strSliceIndices (some (z.length : Int)) none 1 z.length := by
        have a1 : ¬ i < 0 := by omega
        have a2 : ¬ ((z.length : Int) < 0) := by omega
        have a3 : min i (z.length : Int) = (z.length : Int) := by omega
        simp [Builtin.Str.strSliceIndices, a1, a2, a3]
      rw [e4]
    rw [e3]
    have e := StrLaws.sliceText_from (x := z) (i := (z.length : Int)) ⟨by omega, by rw [Array.length_toList]; exact Int.le_refl _⟩
    rw [e]
    simp only [Str.length] at c ⊢
    rw [List.size_toArray, List.length_take, List.length_drop, Array.length_toList]
    omega
theorem join_le {y : Str} {b : Nat} : ∀ {ws : List Str}, (∀ a ∈ ws, a.length ≤ b) → (Str.join y ws).length ≤ ws.length * (b + y.length)
  | [], _ => Nat.zero_le _
  | [x], h => by
    have := h x (by simp)
    show x.length ≤ 1 * _
    omega
  | x :: z :: r, h => by
    have ih := join_le (y := y) (ws := z :: r) fun a ha => h a (List.mem_cons_of_mem _ ha)
    have e : (Str.join y (x :: z :: r)).length = x.length + y.length + (Str.join y (z :: r)).length := by
      show (x ++ y ++ Str.join y (z :: r)).length = _
      rw [Str.length_append, Str.length_append]
    have := h x (by simp)
    rw [e, List.length_cons, Nat.succ_mul]
    omega
theorem text_len {r : Row} (hl : r.length ≤ 63) (h : ∀ p ∈ r, p.1.natAbs < 10 ^ 30 ∧ p.2.natAbs < 10 ^ 30) : (rowText r).length ≤ 4100 := by
  have key : ∀ n : Int, n.natAbs < 10 ^ 30 → (Str.ofString (toString n)).length ≤ 31 := fun n hn => by
    rw [PySem.ofString_length]
    exact int_text_length_le10 (by decide) hn
  have hs : ∀ a ∈ r.map stT, a.length ≤ 63 := fun a ha => by
    obtain ⟨p, hp, rfl⟩ := List.mem_map.mp ha
    unfold stT
    rw [strLen_append, strLen_append]
    have h1 := key _ (h p hp).1
    have h2 := key _ (h p hp).2
    have h3 : colon.length = 1 := rfl
    omega
  have := join_le (y := blank) hs
  rw [List.length_map] at this
  have hb : blank.length = 1 := rfl
  rw [hb] at this
  unfold rowText
  omega
noncomputable def BadW (H : Hp) (v : V) : Prop := ∃ a r, v = .ref a ∧ RowAt H a r ∧ r.length ≤ 5000 ∧ Good r ∧ ¬ Short r
theorem BadW.same {H H' : Hp} {v : V} (h : BadW H v) (s : Same H H') : BadW H' v := by
  obtain ⟨a, r, e, h1, h2⟩ := h
  exact ⟨a, r, e, h1.same s, h2⟩
theorem good_one {p h : Int} (hh : 1 ≤ h) : Good [(p, h)] := ⟨fun i j h1 h2 => by simp at h2; omega, fun i h1 => by
  have : i = 0 := by simpa using h1
  subst this
  exact hh⟩
theorem bad_one {p h : Int} (hb : ¬ (p.natAbs < 10 ^ 60 ∧ h.natAbs < 10 ^ 60)) : ¬ Short [(p, h)] := fun s => hb (s (p, h) (by simp))
theorem last_word {cs : List Nat} {n : Int} (h : numOk cs = true) (e : numV cs = n) : sg (Str.ofString (toString n)) = cs := by
  subst e
  exact str_word h
theorem last_text : rowText [(1 - (10 : Int) ^ (60 : Int).toNat, (10 : Int) ^ (60 : Int).toNat - 1)] = ((Str.ofString "-" ++ Txt.mul (Str.ofString "9") 60) ++ Str.ofString ":") ++ Txt.mul (Str.ofString "9") 60 := by
  have e9 : sg (Txt.mul (Str.ofString "9") 60) = List.replicate 60 57 := by
    have : Str.ofString "9" = ⟨#[57]⟩ := by decide +kernel
    rw [this]
    exact mul_one_list 57 60
  have w1 := last_word (cs := 45 :: List.replicate 60 57) (n := 1 - (10 : Int) ^ (60 : Int).toNat) (by decide +kernel) (by decide +kernel)
  have w2 := last_word (cs := List.replicate 60 57) (n := (10 : Int) ^ (60 : Int).toNat - 1) (by decide +kernel) (by decide +kernel)
  apply ext_sg
  show sg ((Str.ofString (toString (1 - (10 : Int) ^ (60 : Int).toNat)) ++ colon) ++ Str.ofString (toString ((10 : Int) ^ (60 : Int).toNat - 1))) = _
  rw [app_sg, app_sg, app_sg, app_sg, app_sg, w1, w2, e9, minus_eq, colon_eq]
  rfl
theorem sign_at (c : Int) : ∃ d, atI (sg (Str.ofString "0123456789:- +\n")) (c / 3 % 15) = some d := by
  have e : sg (Str.ofString "0123456789:- +\n") = [48, 49, 50, 51, 52, 53, 54, 55, 56, 57, 58, 45, 32, 43, 10] := by decide +kernel
  rw [e]
  obtain ⟨j, hj⟩ : ∃ j : Nat, c / 3 % 15 = (j : Int) := ⟨(c / 3 % 15).toNat, by omega⟩
  have hl : j < 15 := by omega
  exact ⟨_, atI_cast hj (List.getElem?_eq_getElem (by simpa using hl))⟩
theorem pick_sign (c : Int) (d : Nat) : ∃ y : Str, y.length ≤ 1 ∧ atI [V.str (Str.ofString ""), V.str ⟨#[d]⟩] (c / 7 % 2) = some (.str y) := by
  rcases (by omega : c / 7 % 2 = 0 ∨ c / 7 % 2 = 1) with e | e
  · exact ⟨Str.ofString "", by decide, by rw [e]; rfl⟩
  · exact ⟨⟨#[d]⟩, Nat.le_refl 1, by rw [e]; rfl⟩
end Fk

set_option genSizeOf false
set_option genInjectivity false
namespace Fk
open PySem L2 Fm PyProof.Rows
theorem bad1 {H : Hp} {p t : Addr} {a b : Int} (hp : H p = some (.lst [.ref t])) (ht : H t = some (.tup [.int a, .int b])) (hb : 1 ≤ b) (hs : ¬ (a.natAbs < 10 ^ 60 ∧ b.natAbs < 10 ^ 60)) : BadW H (.ref p) :=
  ⟨p, [(a, b)], rfl, ⟨[.ref t], hp, .cons ⟨t, rfl, ht⟩ .nil⟩, by show 1 ≤ 5000; decide, good_one hb, bad_one hs⟩
theorem fil_st (r : Row) : ((List.range r.length).filter fun _ => true).map (fun i => V.str (stT (r.getD i (0, 0)))) = (r.map stT).map V.str := by
  rw [fil_all, List.map_map]
  apply List.ext_getElem?
  intro i
  rw [List.getElem?_map, List.getElem?_map]
  by_cases c : i < r.length
  · rw [List.getElem?_range c, List.getElem?_eq_getElem c]
    show some (V.str (stT (r.getD i (0, 0)))) = some (V.str (stT r[i]))
    rw [List.getD_eq_getElem?_getD, List.getElem?_eq_getElem c]
    rfl
  · rw [List.getElem?_eq_none (by simpa using c), List.getElem?_eq_none (by simpa using c)]
    rfl
theorem all_trues (n : Nat) : (((List.range n).filter fun _ => true).map fun _ => true).all id = true := by simp
theorem int_len30 {n : Int} (h : n.natAbs < 10 ^ 30) : (Str.ofString (toString n)).length ≤ 31 := by
  rw [PySem.ofString_length]
  exact int_text_length_le10 (by decide) h
section
variable {P : Program} {w : World} {K : PySem.W.Frag} {mg : Str → Option Value} {base : Heap} {eF eR eS eD eT : Addr}
theorem scLaw7 : FnScope ["_law_script", "_law_row_here", "_law_text", "_law_handed", "_law_cell", "_law_at", "_law_sign", "_law_great", "_law_stones"] ["_law_script"] (defScope sLaw) := ⟨rfl, rfl, rfl, by decide +kernel, rfl, by decide +kernel, by decide +kernel⟩
theorem ok_law7 {f : Addr} {fd : FuncData} (F : Fun K "law" "law" sLaw f fd) (B : Blt mg) (d_row : Dfn P w K mg base "_law_row" 1 ["_law_script"] (spRow K)) (d_ref : Dfn P w K mg base "_law_refused" 5 ["_law_ask", "_law_thing", "_law_due"] (spRef P w K mg base eR eT))
    (d_read : DfnG Ga P w K mg base "read" 4 ["text"] (spRead K eT)) (d_wri : DfnE P w K mg base "written" 4 ["row"] (spWri eR)) (d_right : Dfn P w K mg base "_law_right" 6 ["_law_text"] spRight7) (d_few : Dfn P w K mg base "_law_few" 1 [] spFew7) : FnOk P w K mg base CX0 7 f fd ["_law_script"] (spLaw K) := by
  obtain ⟨fr, mr, ar⟩ := d_read.at
  obtain ⟨fw, mw, aw⟩ := (DfnG.toG (G' := Ga) (fun _ _ => trivial) d_wri).at
  have d_wri0 := d_wri.still
  refine F.ok scLaw7 (fun vs H Q E h => ?_) (fun cdv A outer s H vs Q E hr h => ?_)
  · obtain ⟨a, ns, rfl, _⟩ := h
    rfl
  · obtain ⟨a, ns, rfl, hS, hns, q⟩ := h
    refine ⟨_, (pss_cons (ps_set (i := 1) scLaw7.nd rfl (Or.inl rfl) (pe_callD d_row (hr.mono (by decide)) (by rfl) (pa_cons (pv 0) pa_nil)))
      (pss_cons (ps_set (i := 2) scLaw7.nd rfl (Or.inl rfl) (pe_bm PySem.F.plainAttrs_str PySem.F.slot_str_join PySem.F.type_str_join (mt_joinK K rfl) pe_str (pa_cons (pe_comp rfl (cap := []) (own := ["_law_place", "_law_height"]) (CompOk.of (outer := defScope sLaw) (N := ["_law_script", "_law_row_here", "_law_text", "_law_handed", "_law_cell", "_law_at", "_law_sign", "_law_great", "_law_stones"]) rfl rfl (by decide +kernel)) (pi_list (pv 1))
          (fun _ _ _ _ => ⟨(pg_tupK (n := 2) K rfl rfl (pgs_cons (pg_name (i := 0) (show List.Nodup (["_law_place", "_law_height"] : List Str) by decide +kernel) rfl (Or.inl rfl)) (pgs_cons (pg_name (i := 1) (show List.Nodup (["_law_place", "_law_height"] : List Str) by decide +kernel) rfl (Or.inl rfl)) pgs_nil))), pf_nil, (pe_op op_add_str (pe_op op_add_str (pe_callTy call_str_int (by rfl) B.b_str boot_str (pa_cons (pv 0) pa_nil)) pe_str) (pe_callTy call_str_int (by rfl) B.b_str boot_str (pa_cons (pv 1) pa_nil)))⟩)) pa_nil)))
      (pss_cons (ps_set (i := 3) scLaw7.nd rfl (Or.inl rfl) (pe_callTy (call_list_ofK K rfl) (by rfl) B.b_list boot_list (pa_cons (pv 1) pa_nil)))
      (pss_cons (ps_if (PW.pt (pw_or (pt_cmpR op_ne (pe_callD d_wri0 (hr.mono (by decide)) (by rfl) (pa_cons (pv 3) pa_nil)) (pv 2) (nomark _)) (pw_or (pt_cmpR (op_neL hr.units) (pv 3) (pv 1) (nomark _)) (pw_or1 (pt_not (pt_val (pe_callD d_right (hr.mono (by decide)) (by rfl) (pa_cons (pv 2) pa_nil)))))))) (pss_one (ps_ret pe_bl)) pss_nil)
      (pss_cons (ps_for PassesOwn.never rfl (pi_list (pe_op op_cat (pe_slice (sl_listK K rfl) (pv 0) po_none (po_some pe_int)) (pe_sliceS (pv 0) (po_some pe_int) po_none pe_int))) (pg_name (i := 4) scLaw7.nd rfl (Or.inl rfl))
        (pss_cons (ps_set (i := 5) scLaw7.nd rfl (Or.inl rfl) (pe_op op_mod (pe_op op_fdivB (pv 4) pe_int) (pe_op op_add (pe_callB call_len_str (by rfl) B.b_len boot_len (pa_cons (pv 2) pa_nil)) pe_int)))
        (pss_cons (ps_set (i := 6) scLaw7.nd rfl (Or.inl rfl) (pe_ix (ix_tupK K rfl) (pe_tup (pa_cons pe_str (pa_cons (pe_ix ix_str pe_str (pe_op op_mod (pe_op op_fdivB (pv 4) pe_int) pe_int) (fun _ _ => rfl)) pa_nil))) (pe_op op_mod (pe_op op_fdivB (pv 4) pe_int) pe_int) (fun _ _ => rfl)))
        (pss_one (ps_if (pt_not (pt_val (pe_callD d_right (hr.mono (by decide)) (by rfl) (pa_cons (pe_op op_add_str (pe_op op_add_str (pe_slice sl_str (pv 2) po_none (po_some (pv 5))) (pv 6)) (pe_slice sl_str (pv 2) (po_some (pe_op op_add (pv 5) (pe_op op_mod (pe_op op_fdivB (pv 4) pe_int) pe_int))) po_none)) pa_nil)))) (pss_one (ps_ret pe_bl)) pss_nil)))))
      (pss_cons (ps_if (pt_not (pt_val (pe_callB (call_allB rfl) (by rfl) B.b_all boot_all (pa_cons (pe_comp rfl (cap := []) (own := ["_law_other"]) (CompOk.of (outer := defScope sLaw) (N := ["_law_script", "_law_row_here", "_law_text", "_law_handed", "_law_cell", "_law_at", "_law_sign", "_law_great", "_law_stones"]) rfl rfl (by decide +kernel)) (pi_list (pe_callD0 d_few (hr.mono (by decide)) (by rfl)))
          (fun _ _ _ _ => ⟨(pg_name (i := 0) (show List.Nodup (["_law_other"] : List Str) by decide +kernel) rfl (Or.inl rfl)), pf_nil, (pe_callD d_right (hr.mono (by decide)) (by rfl) (pa_cons (pv 0) pa_nil))⟩)) pa_nil)))) (pss_one (ps_ret pe_bl)) pss_nil)
      (pss_cons (ps_set (i := 7) scLaw7.nd rfl (Or.inl rfl) (pe_op op_pow pe_int pe_int))
      (pss_cons (ps_for PassesOwn.never rfl (pi_list (pe_lst (pa_cons (pe_lst (pa_cons (pe_tup (pa_cons (pv 7) (pa_cons pe_int pa_nil))) pa_nil)) (pa_cons (pe_lst (pa_cons (pe_tup (pa_cons (pe_un un_neg (pv 7)) (pa_cons pe_int pa_nil))) pa_nil)) (pa_cons (pe_lst (pa_cons (pe_tup (pa_cons pe_int (pa_cons (pv 7) pa_nil))) pa_nil)) (pa_cons (pe_op op_cat (pv 1) (pe_lst (pa_cons (pe_tup (pa_cons (pe_op op_mul pe_int (pv 7)) (pa_cons pe_int pa_nil))) pa_nil))) pa_nil)))))) (pg_name (i := 8) scLaw7.nd rfl (Or.inl rfl))
        (pss_one (ps_if (pt_not (pt_val (pe_callD d_ref (hr.mono (by decide)) (by rfl) (pa_cons (pe_glob (v := .ref fw) (by rfl) mw rfl) (pa_cons (pv 8) (pa_cons pe_int pa_nil)))))) (pss_one (ps_ret pe_bl)) pss_nil)))
      (pss_cons (ps_if (pt_cmpR op_ne (pe_callD d_wri0 (hr.mono (by decide)) (by rfl) (pa_cons (pe_lst (pa_cons (pe_tup (pa_cons (pe_op op_sub pe_int (pv 7)) (pa_cons (pe_op op_sub (pv 7) pe_int) pa_nil))) pa_nil)) pa_nil)) (pe_op op_add_str (pe_op op_add_str (pe_op op_add_str pe_str (pe_op op_mul_str pe_str pe_int)) pe_str) (pe_op op_mul_str pe_str pe_int)) (nomark _)) (pss_one (ps_ret pe_bl)) pss_nil)
      (pss_one (ps_ret (pe_callB (call_allB rfl) (by rfl) B.b_all boot_all (pa_cons (pe_comp rfl (cap := []) (own := ["_law_thing"]) (CompOk.of (outer := defScope sLaw) (N := ["_law_script", "_law_row_here", "_law_text", "_law_handed", "_law_cell", "_law_at", "_law_sign", "_law_great", "_law_stones"]) rfl rfl (by decide +kernel)) (pi_list (pe_lst (pa_cons pe_non (pa_cons pe_int (pa_cons (pe_lst (pa_cons pe_str pa_nil)) (pa_cons pe_bl pa_nil))))))
          (fun _ _ _ _ => ⟨(pg_name (i := 0) (show List.Nodup (["_law_thing"] : List Str) by decide +kernel) rfl (Or.inl rfl)), pf_nil, (pe_callD d_ref (hr.mono (by decide)) (by rfl) (pa_cons (pe_glob (v := .ref fr) (by rfl) mr rfl) (pa_cons (pv 0) (pa_cons pe_int pa_nil))))⟩)) pa_nil))))))))))))), ?_⟩
    refine ⟨_, rfl, a, ns, rfl, hS, hns, fun l H1 r hl s1 ⟨xs, hx1, hx⟩ g hrl hsm => ?_⟩
    have hxl := hx.length
    have hl63 : r.length ≤ 63 := by omega
    have sh : Short r := fun p hp => ⟨Nat.lt_trans (hsm p hp).1 (by decide), Nat.lt_trans (hsm p hp).2 (by decide)⟩
    have tl := text_len hl63 hsm
    refine ⟨rfl, _, rfl, l, rfl, ⟨_, SqL.of hx1⟩, comp_fil5 (n := xs.length) (fun _ => true) (fun i => V.str (stT (r.getD i (0, 0)))) (by omega) (fun j H3 s3 hj => ⟨xs, _, SqL.of (s3 _ _ hx1), List.getElem?_eq_getElem hj⟩) (fun H3 s3 => ⟨xs, SqL.of (s3 _ _ hx1), Nat.le_refl _⟩) ?_ ?_⟩
    · rintro j y H3 H4 Q1 Q2 hj s3 ⟨rfl, hy⟩ y1 y2
      obtain ⟨p, e1, t, rfl, e2⟩ := paired_get hx j (hy xs (SqL.of (s3 _ _ hx1)))
      have hp := hsm p (List.mem_of_getElem? e1)
      have i1 := int_len30 hp.1
      have i2 := int_len30 hp.2
      have lc : (Str.ofString ":").length = 1 := rfl
      refine ⟨t, _, rfl, SqT.of (s3 _ _ e2), rfl, _, _, rfl, _, _, rfl, rfl, ⟨rfl, rfl⟩, ?_⟩
      refine ⟨_, rfl, p.1, rfl, log_small (Nat.lt_trans hp.1 (by decide)), _, _, rfl, rfl, by rw [sizeLine_eq]; omega, _, rfl, p.2, rfl, log_small (Nat.lt_trans hp.2 (by decide)), _, _, rfl, rfl, by rw [sizeLine_eq, strLen_append]; omega, ?_⟩
      have e3 : r.getD j (0, 0) = p := by rw [List.getD_eq_getElem?_getD, e1]; rfl
      have z := y1 rfl _ (Same.refl _)
      rw [e3] at z
      rw [colon_eq]
      exact z
    intro D H2 hD s2 hd
    rw [hxl, fil_st] at hd
    refine ⟨Str.ofString " ", D, r.map stT, rfl, rfl, SqL.of hd, ?_, ?_⟩
    · rw [blank_eq]
      refine join_fits (b := 125) (fun x hx' => ?_) ?_
      · obtain ⟨p, hp, rfl⟩ := List.mem_map.mp hx'
        exact stT_len ⟨Nat.lt_trans (hsm p hp).1 (by decide), Nat.lt_trans (hsm p hp).2 (by decide)⟩
      · rw [List.length_map, sizeLine_eq]
        omega
    rw [blank_eq]
    have e4 : Txt.join blank (r.map stT) = rowText r := StrLaws.glued_eq_join _ _
    rw [e4]
    have hx2 := s2 _ _ hx1
    refine ⟨_, rfl, l, xs, rfl, .inl (SqL.of hx2), fun h hh => ?_⟩
    have s3 := s2.trans (Same.upd (o := .lst xs) hh)
    have hx3 := s3 _ _ hx1
    refine ⟨_, rfl, h, r, rfl, ⟨xs, upd_same, RowV.same s3 hx⟩, by omega, g, fun _ H4 s4 => ?_, fun n => absurd sh n⟩
    refine ⟨_, rfl, rfl, _, rfl, ?_⟩
    rw [decide_eq_true rfl]
    refine iteF ⟨_, rfl, _, rfl, h, l, _, rfl, rfl, TwoL.rL (SqL.of (s4 _ _ upd_same)) (RowV.same (s3.trans s4) hx) (SqL.of (s4 _ _ hx3)) (RowV.same (s3.trans s4) hx), _, rfl, ?_⟩
    rw [decide_eq_true rfl]
    refine iteF ⟨_, rfl, rowText r, rfl, by omega, fun H5 s5 => ⟨_, rfl, iteF ?_⟩⟩
    have s15 := (s3.trans s4).trans s5
    have S5 := (s1.trans s15).seq hS
    have hx5 := s15 _ _ hx1
    have hr5 := RowV.same s15 hx
    clear hd hD hh hx3 hx2 s3 s4 s5 s2
    generalize rowText r = z at tl ⊢
    refine ⟨_, rfl, _, rfl, a, _, rfl, S5, fun p1 n1 => ?_⟩
    have u1 := Same.upd (o := .lst (cutV (ns.map V.int) none (some 20))) n1
    have len1 := cutV_length (ns.map V.int) none (some 20)
    have len2 := pick5_len (ns.map V.int) 20
    rw [List.length_map] at len1 len2
    refine ⟨_, rfl, _, rfl, a, _, 5, rfl, rfl, by decide, u1.seq S5, by rw [sizeLine_eq]; exact Nat.le_trans len2 (by omega), fun p2 n2 => ?_⟩
    have u2 := Same.upd (o := .lst (pickV (ns.map V.int) (some 20) none (some 5))) n2
    refine ⟨p1, p2, _, _, rfl, rfl, u2 _ _ upd_same, upd_same, by rw [sizeLine_eq]; exact Nat.le_trans (Nat.add_le_add len1 len2) (by omega), fun p3 n3 => ?_⟩
    have u3 := (u1.trans u2).trans (Same.upd (o := .lst (cutV (ns.map V.int) none (some 20) ++ pickV (ns.map V.int) (some 20) none (some 5))) n3)
    have ai : AllI (cutV (ns.map V.int) none (some 20) ++ pickV (ns.map V.int) (some 20) none (some 5)) := allI_app (allI_cut (allI_map ns) _ _) (allI_pick (allI_map ns) _ _ _)
    refine ⟨p3, rfl, ⟨_, SqL.of upd_same⟩, for_list (K := K) (a := p3) (xs := cutV (ns.map V.int) none (some 20) ++ pickV (ns.map V.int) (some 20) none (some 5)) (fun i σ H6 => (∃ o4 o5 o6, σ = [some (.ref a), some (.ref l), some (.str z), some (.ref h), o4, o5, o6, none, none]) ∧ Same H5 H6 ∧ H6 p3 = some (.lst (cutV (ns.map V.int) none (some 20) ++ pickV (ns.map V.int) (some 20) none (some 5)))) ⟨⟨_, _, _, rfl⟩, u3, upd_same⟩ (fun i σ H6 _ ⟨_, _, h6⟩ => SqL.of h6) ?_ ?_⟩
    · rintro i y σ H6 hi ⟨⟨o4, o5, o6, rfl⟩, s6, h6⟩
      obtain ⟨c, rfl⟩ := ai y (List.mem_of_getElem? hi)
      have hzl : z.length ≤ sizeLine := by rw [sizeLine_eq]; omega
      have pz : (0 : Int) < (z.length : Int) + 1 := by omega
      refine ⟨_, rfl, _, _, rfl, rfl, ⟨by decide, by decide⟩, _, rfl, z, rfl, hzl, _, _, rfl, rfl, _, _, rfl, rfl, pz, ?_⟩
      obtain ⟨d, hd⟩ := sign_at c
      obtain ⟨y, yl, hy⟩ := pick_sign c d
      refine ⟨_, rfl, _, _, rfl, rfl, ⟨by decide, by decide⟩, _, _, rfl, rfl, (by show (0 : Int) < 15; decide), _, _, d, rfl, rfl, by decide, hd, two_ok, fun t4 n4 => ?_⟩
      refine ⟨_, rfl, _, _, rfl, rfl, ⟨by decide, by decide⟩, _, _, rfl, rfl, (by show (0 : Int) < 2; decide), t4, _, _, _, rfl, rfl, SqT.of upd_same, hy, ?_⟩
      have a1 := Int.emod_nonneg (c / 41) (Int.ne_of_gt pz)
      have a2 := Int.emod_lt_of_pos (c / 41) pz
      have b1 := Int.emod_nonneg (c / 13) (show (2 : Int) ≠ 0 by decide)
      have c1 := slice_to_len (z := z) (i := c / 41 % ((z.length : Int) + 1)) ⟨a1, by omega⟩
      have c2 := slice_from_len (z := z) (i := c / 41 % ((z.length : Int) + 1) + c / 13 % 2) (by omega)
      refine ⟨_, rfl, _, rfl, _, rfl, z, rfl, hzl, _, rfl, _, _, rfl, rfl, ?_, ?_⟩
      · rw [sizeLine_eq]
        omega
      refine ⟨_, rfl, _, rfl, _, rfl, _, _, rfl, rfl, ⟨by decide, by decide⟩, _, _, rfl, rfl, (by show (0 : Int) < 2; decide), _, _, rfl, rfl, _, rfl, z, rfl, hzl, _, _, rfl, rfl, ?_, ?_⟩
      · rw [sizeLine_eq, strLen_append]
        omega
      refine ⟨_, rfl, ?_, fun H7 s7 => ⟨_, rfl, iteF ⟨⟨_, _, _, rfl⟩, (s6.trans (Same.upd n4)).trans s7, ((Same.upd n4).trans s7) _ _ h6⟩⟩⟩
      rw [strLen_append, strLen_append]
      omega
    rintro σ H6 ⟨⟨o4, o5, o6, rfl⟩, s6, _⟩
    clear ai u3 u2 u1 n1 n2 n3
    refine ⟨rfl, fun D6 H7 us s7 h7 au lu => ?_⟩
    refine ⟨D6, rfl, ⟨_, SqL.of h7⟩, comp_fil5 (n := us.length) (fun _ => true) (fun _ => V.bl true) (by omega) (fun j H8 s8 hj => ⟨us, _, SqL.of (s8 _ _ h7), List.getElem?_eq_getElem hj⟩) (fun H8 s8 => ⟨us, SqL.of (s8 _ _ h7), Nat.le_refl _⟩) ?_ ?_⟩
    · rintro j y H8 H9 Q1 Q2 hj s8 ⟨rfl, hy⟩ y1 y2
      obtain ⟨u, rfl, ul⟩ := au y (List.mem_of_getElem? (hy us (SqL.of (s8 _ _ h7))))
      exact ⟨⟨rfl, rfl⟩, _, rfl, u, rfl, ul, fun H10 s10 => y1 rfl H10 s10⟩
    intro M H8 hM s8 hm
    refine ⟨M, _, rfl, SqL.of (hm.trans (by rw [fil_bl (fun _ => true)])), _, rfl, ?_⟩
    rw [all_trues]
    refine iteF ?_
    refine ⟨_, _, rfl, rfl, ⟨by decide, by decide, by decide⟩, ?_⟩
    have s58 := (s6.trans s7).trans s8
    have hx8 := s58 _ _ hx5
    have hr8 := RowV.same s58 hr5
    have lt := last_text
    clear hm hM s8 h7 au s7 s6 S5
    show _
    have hG' : ((10 : Int) ^ Int.toNat 60) = 10 ^ 60 := by decide
    refine ⟨_, rfl, two_ok, fun t1 n1 => ⟨one_ok, fun p1 m1 => ?_⟩⟩
    have b1 : BadW (L2.upd (L2.upd H8 t1 (.tup [.int ((10 : Int) ^ Int.toNat 60), .int 1])) p1 (.lst [.ref t1])) (.ref p1) := bad1 upd_same ((Same.upd m1) _ _ upd_same) (by decide) (by rw [hG']; decide)
    have v1 : Same H8 (L2.upd (L2.upd H8 t1 (.tup [.int ((10 : Int) ^ Int.toNat 60), .int 1])) p1 (.lst [.ref t1])) := (Same.upd n1).trans (Same.upd m1)
    generalize L2.upd (L2.upd H8 t1 (.tup [.int ((10 : Int) ^ Int.toNat 60), .int 1])) p1 (.lst [.ref t1]) = Ha at b1 v1 ⊢
    refine ⟨_, rfl, _, rfl, two_ok, fun t2 n2 => ⟨one_ok, fun p2 m2 => ?_⟩⟩
    have b2 : BadW (L2.upd (L2.upd Ha t2 (.tup [.int (-((10 : Int) ^ Int.toNat 60)), .int 1])) p2 (.lst [.ref t2])) (.ref p2) := bad1 upd_same ((Same.upd m2) _ _ upd_same) (by decide) (by rw [hG']; decide)
    have v2 : Same Ha (L2.upd (L2.upd Ha t2 (.tup [.int (-((10 : Int) ^ Int.toNat 60)), .int 1])) p2 (.lst [.ref t2])) := (Same.upd n2).trans (Same.upd m2)
    generalize L2.upd (L2.upd Ha t2 (.tup [.int (-((10 : Int) ^ Int.toNat 60)), .int 1])) p2 (.lst [.ref t2]) = Hb at b2 v2 ⊢
    refine ⟨_, rfl, two_ok, fun t3 n3 => ⟨one_ok, fun p3 m3 => ?_⟩⟩
    have b3 : BadW (L2.upd (L2.upd Hb t3 (.tup [.int 0, .int ((10 : Int) ^ Int.toNat 60)])) p3 (.lst [.ref t3])) (.ref p3) := bad1 upd_same ((Same.upd m3) _ _ upd_same) (by rw [hG']; decide) (by rw [hG']; decide)
    have v3 : Same Hb (L2.upd (L2.upd Hb t3 (.tup [.int 0, .int ((10 : Int) ^ Int.toNat 60)])) p3 (.lst [.ref t3])) := (Same.upd n3).trans (Same.upd m3)
    generalize L2.upd (L2.upd Hb t3 (.tup [.int 0, .int ((10 : Int) ^ Int.toNat 60)])) p3 (.lst [.ref t3]) = Hc at b3 v3 ⊢
    refine ⟨_, rfl, _, rfl, _, _, rfl, rfl, .inl ⟨by decide, by decide⟩, two_ok, fun t4 n4 => ⟨one_ok, fun p4 m4 => ?_⟩⟩
    have v8c := (v1.trans v2).trans v3
    have v4 : Same Hc (L2.upd (L2.upd Hc t4 (.tup [.int (2 * ((10 : Int) ^ Int.toNat 60)), .int 1])) p4 (.lst [.ref t4])) := (Same.upd n4).trans (Same.upd m4)
    have k4 : (L2.upd (L2.upd Hc t4 (.tup [.int (2 * ((10 : Int) ^ Int.toNat 60)), .int 1])) p4 (.lst [.ref t4])) p4 = some (.lst [.ref t4]) := upd_same
    have k5 : (L2.upd (L2.upd Hc t4 (.tup [.int (2 * ((10 : Int) ^ Int.toNat 60)), .int 1])) p4 (.lst [.ref t4])) t4 = some (.tup [.int (2 * ((10 : Int) ^ Int.toNat 60)), .int 1]) := (Same.upd m4) _ _ upd_same
    generalize L2.upd (L2.upd Hc t4 (.tup [.int (2 * ((10 : Int) ^ Int.toNat 60)), .int 1])) p4 (.lst [.ref t4]) = Hd at v4 k4 k5 ⊢
    refine ⟨l, p4, xs, _, rfl, rfl, (v8c.trans v4) _ _ hx8, k4, (by show _ + 1 ≤ _; rw [sizeLine_eq]; omega), fun p5 m5 => ?_⟩
    have v5 := Same.upd (o := .lst (xs ++ [.ref t4])) m5
    have b4 : BadW (L2.upd Hd p5 (.lst (xs ++ [.ref t4]))) (.ref p5) := by
      refine ⟨p5, r ++ [(2 * ((10 : Int) ^ Int.toNat 60), 1)], rfl, ⟨_, upd_same, RowV.snoc (RowV.same ((v8c.trans v4).trans v5) hr8) ⟨t4, rfl, v5 _ _ k5⟩⟩, by rw [List.length_append]; show r.length + 1 ≤ 5000; omega, Good.snoc g (fun i hi => ?_) (by decide), fun s => ?_⟩
      · have mi := (hsm _ (List.getElem_mem hi)).1
        have ei : pl r i = r[i].1 := by
          unfold pl
          rw [List.getD_eq_getElem?_getD, List.getElem?_eq_getElem hi]
          rfl
        rw [ei, hG']
        omega
      · have z := (s (2 * ((10 : Int) ^ Int.toNat 60), 1) (by simp)).1
        rw [hG'] at z
        exact absurd z (by decide)
    refine ⟨four_ok, fun p6 m6 => ?_⟩
    have v6 := Same.upd (o := .lst [.ref p1, .ref p2, .ref p3, .ref p5]) m6
    have bb : ∀ y ∈ [V.ref p1, V.ref p2, V.ref p3, V.ref p5], BadW (L2.upd (L2.upd Hd p5 (.lst (xs ++ [.ref t4]))) p6 (.lst [.ref p1, .ref p2, .ref p3, .ref p5])) y := by
      have b1' := b1.same ((((v2.trans v3).trans v4).trans v5).trans v6)
      have b2' := b2.same (((v3.trans v4).trans v5).trans v6)
      have b3' := b3.same ((v4.trans v5).trans v6)
      have b4' := b4.same v6
      exact List.forall_mem_cons.mpr ⟨b1', List.forall_mem_cons.mpr ⟨b2', List.forall_mem_cons.mpr ⟨b3', List.forall_mem_cons.mpr ⟨b4', fun y hy => nomatch hy⟩⟩⟩⟩
    have k6 : (L2.upd (L2.upd Hd p5 (.lst (xs ++ [.ref t4]))) p6 (.lst [.ref p1, .ref p2, .ref p3, .ref p5])) p6 = some (.lst [.ref p1, .ref p2, .ref p3, .ref p5]) := upd_same
    generalize L2.upd (L2.upd Hd p5 (.lst (xs ++ [.ref t4]))) p6 (.lst [.ref p1, .ref p2, .ref p3, .ref p5]) = He at bb k6 ⊢
    refine ⟨p6, rfl, ⟨_, SqL.of k6⟩, for_list (K := K) (a := p6) (xs := [V.ref p1, V.ref p2, V.ref p3, V.ref p5]) (fun i σ H6 => (∃ o8, σ = [some (.ref a), some (.ref l), some (.str z), some (.ref h), o4, o5, o6, some (.int ((10 : Int) ^ Int.toNat 60)), o8]) ∧ Same He H6) ⟨⟨_, rfl⟩, Same.refl _⟩ (fun i σ H6 _ ⟨_, s6⟩ => SqL.of (s6 _ _ k6)) ?_ ?_⟩
    · rintro i y σ H6 hi ⟨⟨o8, rfl⟩, s6⟩
      obtain ⟨ab, rb, rfl, h1, h2, h3, h4⟩ := (bb y (List.mem_of_getElem? hi)).same s6
      exact ⟨_, rfl, fw, _, 0, _, rfl, .inl rfl, aw, ⟨ab, rb, rfl, h1, h2, h3, fun s => absurd s h4, fun _ x _ => ⟨rfl, Same.refl _⟩⟩, fun H' s' => ⟨_, rfl, iteF ⟨⟨_, rfl⟩, s6.trans s'⟩⟩⟩
    rintro σ H9 ⟨⟨o8, rfl⟩, s9⟩
    refine ⟨_, rfl, _, _, rfl, rfl, _, rfl, _, _, rfl, rfl, two_ok, fun t n => ⟨one_ok, fun p m => ?_⟩⟩
    have shl : Short [(1 - ((10 : Int) ^ Int.toNat 60), ((10 : Int) ^ Int.toNat 60) - 1)] := fun p hp => by
      have e : p = (1 - ((10 : Int) ^ Int.toNat 60), ((10 : Int) ^ Int.toNat 60) - 1) := by simpa using hp
      subst e
      rw [hG']
      decide
    refine ⟨p, [(1 - ((10 : Int) ^ Int.toNat 60), ((10 : Int) ^ Int.toNat 60) - 1)], rfl, ⟨[.ref t], upd_same, .cons ⟨t, rfl, (Same.upd m) _ _ upd_same⟩ .nil⟩, (by show 1 ≤ 5000; decide), good_one (by rw [hG']; decide), fun _ H10 s10 => ?_, fun n => absurd shl n⟩
    have q1 := mul_len (x := Str.ofString "9") (n := 60) (by decide) 60 (by decide)
    refine ⟨_, _, rfl, rfl, mul_ok (by decide) (by decide) (by decide), _, _, rfl, rfl, ?_, _, _, rfl, rfl, ?_, _, _, rfl, rfl, mul_ok (by decide) (by decide) (by decide), _, _, rfl, rfl, ?_, rfl, _, rfl, ?_⟩
    · have e1 : (Str.ofString "-").length = 1 := rfl
      rw [sizeLine_eq]
      omega
    · have e1 : (Str.ofString "-").length = 1 := rfl
      have e2 : (Str.ofString ":").length = 1 := rfl
      rw [sizeLine_eq, strLen_append]
      omega
    · have e1 : (Str.ofString "-").length = 1 := rfl
      have e2 : (Str.ofString ":").length = 1 := rfl
      rw [sizeLine_eq, strLen_append, strLen_append]
      omega
    rw [lt, decide_eq_true rfl]
    refine iteF ?_
    refine ⟨one_ok, fun p7 m7 => ⟨four_ok, fun p8 m8 => ⟨p8, rfl, ⟨_, SqL.of upd_same⟩, comp_fil5 (n := 4) (fun _ => true) (fun _ => V.bl true) (by decide) (fun j H11 s11 hj => ⟨_, _, SqL.of (s11 _ _ upd_same), List.getElem?_eq_getElem hj⟩) (fun H11 s11 => ⟨_, SqL.of (s11 _ _ upd_same), Nat.le_refl _⟩) ?_ ?_⟩⟩⟩
    · rintro j y H11 H12 Q1 Q2 hj s11 ⟨rfl, hy⟩ y1 y2
      have hy := hy _ (SqL.of (s11 _ _ upd_same))
      have nt : NoText K H12 y := by
        have hl7 := s11 _ _ ((Same.upd m8) _ _ upd_same)
        rcases (show j = 0 ∨ j = 1 ∨ j = 2 ∨ j = 3 by omega) with rfl | rfl | rfl | rfl
        · cases hy
          exact ⟨_, TyOf.non, kitB (by decide +kernel)⟩
        · cases hy
          exact ⟨_, TyOf.int 5, kitB (by decide +kernel)⟩
        · cases hy
          exact ⟨_, TyOf.lst hl7, kitB (by decide +kernel)⟩
        · cases hy
          exact ⟨_, TyOf.bl true, kitB (by decide +kernel)⟩
      exact ⟨⟨rfl, rfl⟩, _, rfl, fr, _, 1, _, rfl, .inr rfl, ar, ⟨_, rfl, .inr ⟨nt, fun x H' s' => ⟨rfl, s'⟩⟩⟩, fun H' s' => y1 rfl H' s'⟩
    intro M2 H11 hM2 s11 hm2
    refine ⟨M2, _, rfl, SqL.of (hm2.trans (by rw [fil_bl (fun _ => true)])), ?_⟩
    rw [all_trues]
    exact q _
end
end Fk

set_option genSizeOf false
set_option genInjectivity false
namespace Fk
open PySem L2 Fm PyProof.Rows
theorem kit_own {K : PySem.W.Frag} {C D : Addr} {b : Bool} (h1 : PySem.W.isClsIn K D = true) (h2 : PySem.W.typeIn K (.ref D) = some (.type "type")) (h3 : PySem.W.mroIn K C (.ref D) = some b) (hs : PySem.W.mroIn K C (.ref C) = some true) : PySem.W.kitOne K (.ref C) (.ref D) = some b := by
  unfold PySem.W.kitOne
  by_cases e : C = D
  · subst e
    rw [h3] at hs
    rw [if_pos (by simp)]
    exact hs.symm
  · have e2 : ((Value.ref C) == (Value.ref D)) = false := by
      rw [beq_eq_false_iff_ne]
      intro z
      exact e (Value.ref.inj z)
    rw [if_neg (by rw [e2]; exact Bool.false_ne_true)]
    unfold PySem.W.kitCls
    unfold PySem.W.isClsIn at h1
    show (if ((PySem.W.clsIn K D).isSome && PySem.W.typeIn K (.ref D) == some (.type "type")) = true then PySem.W.subIn K (.ref C) (.ref D) else none) = some b
    rw [if_pos (by rw [h1, h2]; decide +kernel)]
    exact h3
theorem exm_own {K : PySem.W.Frag} {C D : Addr} (h0 : PySem.W.mroIn K D (.type "BaseException") = some true) (h1 : PySem.W.isClsIn K D = true) (h2 : PySem.W.typeIn K (.ref D) = some (.type "type")) (h3 : PySem.W.mroIn K C (.ref D) = some true) : PySem.W.exmOne K (.ref C) (.ref D) = some true := by
  unfold PySem.W.exmOne
  have e : PySem.W.subIn K (.ref D) (.type "BaseException") = some true := h0
  rw [e, if_pos (by decide)]
  unfold PySem.W.kitCls
  unfold PySem.W.isClsIn at h1
  show (if ((PySem.W.clsIn K D).isSome && PySem.W.typeIn K (.ref D) == some (.type "type")) = true then PySem.W.subIn K (.ref C) (.ref D) else none) = some true
  rw [if_pos (by rw [h1, h2]; decide +kernel)]
  exact h3
end Fk

set_option genSizeOf false
set_option genInjectivity false
namespace Fk
open PySem L2 PyProof.Rows Fm
theorem all_mk {l : PySem.W.OpenLaw} {w : World} {K : PySem.W.Frag} {h : Heap} {mg : Str → Option Value} {fa f1 f2 f3 f4 f5 f6 f7 f8 f9 f10 f11 f12 f13 f14 f15 f16 f17 eF eR eS eD eT : Addr} {tk0 tk1 : Tok} (X : K.In h) (G : h.Ns mainGlobals mg) (hfa : mg "law" = some (.ref fa))
    {od1 an1 od2 an2 od3 an3 od4 an4 od5 an5 od6 an6 od7 an7 od8 an8 od9 an9 od10 an10 od11 an11 od12 an12 od13 an13 od14 an14 od15 an15 od16 an16 od17 an17 : Option Addr} {sl1 sl2 sl3 sl4 sl5 sl6 sl7 sl8 sl9 sl10 sl11 sl12 sl13 sl14 sl15 sl16 sl17 : Array (Option Value)} {oc1 kV1 dc1 pm1 cd1 ct1 oc2 kV2 dc2 pm2 cd2 ct2 oc3 kV3 dc3 pm3 cd3 ct3 oc4 kV4 dc4 pm4 cd4 ct4 oc5 kV5 dc5 pm5 cd5 ct5 oc6 kV6 dc6 pm6 cd6 ct6 oc7 kV7 dc7 pm7 cd7 ct7 oc8 kV8 dc8 pm8 cd8 ct8 oc9 kV9 dc9 pm9 cd9 ct9 oc10 kV10 dc10 pm10 cd10 ct10 oc11 kV11 dc11 pm11 cd11 ct11 oc12 kV12 dc12 pm12 cd12 ct12 oc13 kV13 dc13 pm13 cd13 ct13 oc14 kV14 dc14 pm14 cd14 ct14 oc15 kV15 dc15 pm15 cd15 ct15 oc16 kV16 dc16 pm16 cd16 ct16 oc17 kV17 dc17 pm17 cd17 ct17 : Value}
    (ugF : PySem.W.nsIn K mainGlobals "FallError" = some (some (.ref eF)))
    (ugR : PySem.W.nsIn K mainGlobals "BadRow" = some (some (.ref eR)))
    (ugS : PySem.W.nsIn K mainGlobals "BadStone" = some (some (.ref eS)))
    (ugD : PySem.W.nsIn K mainGlobals "BadSide" = some (some (.ref eD)))
    (ugT : PySem.W.nsIn K mainGlobals "BadText" = some (some (.ref eT)))
    (a1 : PySem.W.nsIn K mainGlobals "is_number" = some (some (.ref f1)))
    (l1 : K.lookup f1 = some ⟨oc1, od1, .func (PySem.W.fnOf "is_number" "is_number" (defArgs sNum) (defBody sNum) (defScope sNum) .none kV1 dc1 pm1 an1 cd1 ct1), sl1⟩)
    (c1 : PySem.W.codeIn K cd1 "is_number" = true)
    (k1 : PySem.W.keepIn K (.ref f1) = true)
    (a2 : PySem.W.nsIn K mainGlobals "is_pair" = some (some (.ref f2)))
    (l2 : K.lookup f2 = some ⟨oc2, od2, .func (PySem.W.fnOf "is_pair" "is_pair" (defArgs sPair) (defBody sPair) (defScope sPair) .none kV2 dc2 pm2 an2 cd2 ct2), sl2⟩)
    (c2 : PySem.W.codeIn K cd2 "is_pair" = true)
    (k2 : PySem.W.keepIn K (.ref f2) = true)
    (a3 : PySem.W.nsIn K mainGlobals "is_stone" = some (some (.ref f3)))
    (l3 : K.lookup f3 = some ⟨oc3, od3, .func (PySem.W.fnOf "is_stone" "is_stone" (defArgs sStone) (defBody sStone) (defScope sStone) .none kV3 dc3 pm3 an3 cd3 ct3), sl3⟩)
    (c3 : PySem.W.codeIn K cd3 "is_stone" = true)
    (k3 : PySem.W.keepIn K (.ref f3) = true)
    (a4 : PySem.W.nsIn K mainGlobals "check_row" = some (some (.ref f4)))
    (l4 : K.lookup f4 = some ⟨oc4, od4, .func (PySem.W.fnOf "check_row" "check_row" (defArgs sChkRow) (defBody sChkRow) (defScope sChkRow) .none kV4 dc4 pm4 an4 cd4 ct4), sl4⟩)
    (c4 : PySem.W.codeIn K cd4 "check_row" = true)
    (k4 : PySem.W.keepIn K (.ref f4) = true)
    (a5 : PySem.W.nsIn K mainGlobals "is_short" = some (some (.ref f5)))
    (l5 : K.lookup f5 = some ⟨oc5, od5, .func (PySem.W.fnOf "is_short" "is_short" (defArgs s_is_short) (defBody s_is_short) (defScope s_is_short) .none kV5 dc5 pm5 an5 cd5 ct5), sl5⟩)
    (c5 : PySem.W.codeIn K cd5 "is_short" = true)
    (k5 : PySem.W.keepIn K (.ref f5) = true)
    (a6 : PySem.W.nsIn K mainGlobals "written" = some (some (.ref f6)))
    (l6 : K.lookup f6 = some ⟨oc6, od6, .func (PySem.W.fnOf "written" "written" (defArgs s_written) (defBody s_written) (defScope s_written) .none kV6 dc6 pm6 an6 cd6 ct6), sl6⟩)
    (c6 : PySem.W.codeIn K cd6 "written" = true)
    (k6 : PySem.W.keepIn K (.ref f6) = true)
    (a7 : PySem.W.nsIn K mainGlobals "is_written_number" = some (some (.ref f7)))
    (l7 : K.lookup f7 = some ⟨oc7, od7, .func (PySem.W.fnOf "is_written_number" "is_written_number" (defArgs s_is_written_number) (defBody s_is_written_number) (defScope s_is_written_number) .none kV7 dc7 pm7 an7 cd7 ct7), sl7⟩)
    (c7 : PySem.W.codeIn K cd7 "is_written_number" = true)
    (k7 : PySem.W.keepIn K (.ref f7) = true)
    (a8 : PySem.W.nsIn K mainGlobals "read_number" = some (some (.ref f8)))
    (l8 : K.lookup f8 = some ⟨oc8, od8, .func (PySem.W.fnOf "read_number" "read_number" (defArgs s_read_number) (defBody s_read_number) (defScope s_read_number) .none kV8 dc8 pm8 an8 cd8 ct8), sl8⟩)
    (c8 : PySem.W.codeIn K cd8 "read_number" = true)
    (k8 : PySem.W.keepIn K (.ref f8) = true)
    (a9 : PySem.W.nsIn K mainGlobals "read_stone" = some (some (.ref f9)))
    (l9 : K.lookup f9 = some ⟨oc9, od9, .func (PySem.W.fnOf "read_stone" "read_stone" (defArgs s_read_stone) (defBody s_read_stone) (defScope s_read_stone) .none kV9 dc9 pm9 an9 cd9 ct9), sl9⟩)
    (c9 : PySem.W.codeIn K cd9 "read_stone" = true)
    (k9 : PySem.W.keepIn K (.ref f9) = true)
    (a10 : PySem.W.nsIn K mainGlobals "read" = some (some (.ref f10)))
    (l10 : K.lookup f10 = some ⟨oc10, od10, .func (PySem.W.fnOf "read" "read" (defArgs s_read) (defBody s_read) (defScope s_read) .none kV10 dc10 pm10 an10 cd10 ct10), sl10⟩)
    (c10 : PySem.W.codeIn K cd10 "read" = true)
    (k10 : PySem.W.keepIn K (.ref f10) = true)
    (a11 : PySem.W.nsIn K mainGlobals "_law_row" = some (some (.ref f11)))
    (l11 : K.lookup f11 = some ⟨oc11, od11, .func (PySem.W.fnOf "_law_row" "_law_row" (defArgs sRow) (defBody sRow) (defScope sRow) .none kV11 dc11 pm11 an11 cd11 ct11), sl11⟩)
    (c11 : PySem.W.codeIn K cd11 "_law_row" = true)
    (k11 : PySem.W.keepIn K (.ref f11) = true)
    (a12 : PySem.W.nsIn K mainGlobals "_law_number" = some (some (.ref f12)))
    (l12 : K.lookup f12 = some ⟨oc12, od12, .func (PySem.W.fnOf "_law_number" "_law_number" (defArgs s_law_number) (defBody s_law_number) (defScope s_law_number) .none kV12 dc12 pm12 an12 cd12 ct12), sl12⟩)
    (c12 : PySem.W.codeIn K cd12 "_law_number" = true)
    (k12 : PySem.W.keepIn K (.ref f12) = true)
    (a13 : PySem.W.nsIn K mainGlobals "_law_in" = some (some (.ref f13)))
    (l13 : K.lookup f13 = some ⟨oc13, od13, .func (PySem.W.fnOf "_law_in" "_law_in" (defArgs s_law_in) (defBody s_law_in) (defScope s_law_in) .none kV13 dc13 pm13 an13 cd13 ct13), sl13⟩)
    (c13 : PySem.W.codeIn K cd13 "_law_in" = true)
    (k13 : PySem.W.keepIn K (.ref f13) = true)
    (a14 : PySem.W.nsIn K mainGlobals "_law_refused" = some (some (.ref f14)))
    (l14 : K.lookup f14 = some ⟨oc14, od14, .func (PySem.W.fnOf "_law_refused" "_law_refused" (defArgs s_law_refused) (defBody s_law_refused) (defScope s_law_refused) .none kV14 dc14 pm14 an14 cd14 ct14), sl14⟩)
    (c14 : PySem.W.codeIn K cd14 "_law_refused" = true)
    (k14 : PySem.W.keepIn K (.ref f14) = true)
    (a15 : PySem.W.nsIn K mainGlobals "_law_right" = some (some (.ref f15)))
    (l15 : K.lookup f15 = some ⟨oc15, od15, .func (PySem.W.fnOf "_law_right" "_law_right" (defArgs sRight) (defBody sRight) (defScope sRight) .none kV15 dc15 pm15 an15 cd15 ct15), sl15⟩)
    (c15 : PySem.W.codeIn K cd15 "_law_right" = true)
    (k15 : PySem.W.keepIn K (.ref f15) = true)
    (a16 : PySem.W.nsIn K mainGlobals "_law_few" = some (some (.ref f16)))
    (l16 : K.lookup f16 = some ⟨oc16, od16, .func (PySem.W.fnOf "_law_few" "_law_few" (defArgs s_law_few) (defBody s_law_few) (defScope s_law_few) .none kV16 dc16 pm16 an16 cd16 ct16), sl16⟩)
    (c16 : PySem.W.codeIn K cd16 "_law_few" = true)
    (k16 : PySem.W.keepIn K (.ref f16) = true)
    (a17 : PySem.W.nsIn K mainGlobals "law" = some (some (.ref f17)))
    (l17 : K.lookup f17 = some ⟨oc17, od17, .func (PySem.W.fnOf "law" "law" (defArgs sLaw) (defBody sLaw) (defScope sLaw) .none kV17 dc17 pm17 an17 cd17 ct17), sl17⟩)
    (c17 : PySem.W.codeIn K cd17 "law" = true)
    (k17 : PySem.W.keepIn K (.ref f17) = true)
    (e0 : PySem.W.nsIn K mainGlobals "FIGURES" = some (some (.str (Str.ofString "0123456789") tk0)))
    (e1 : PySem.W.nsIn K mainGlobals "MOST_FIGURES" = some (some (.int 60 tk1)))
    (z0 : PySem.W.nsIn K mainGlobals "len" = some none)
    (z1 : PySem.W.nsIn K mainGlobals "isinstance" = some none)
    (z2 : PySem.W.nsIn K mainGlobals "int" = some none)
    (z3 : PySem.W.nsIn K mainGlobals "bool" = some none)
    (z4 : PySem.W.nsIn K mainGlobals "list" = some none)
    (z5 : PySem.W.nsIn K mainGlobals "tuple" = some none)
    (z6 : PySem.W.nsIn K mainGlobals "range" = some none)
    (z7 : PySem.W.nsIn K mainGlobals "reversed" = some none)
    (z8 : PySem.W.nsIn K mainGlobals "max" = some none)
    (z9 : PySem.W.nsIn K mainGlobals "abs" = some none)
    (z10 : PySem.W.nsIn K mainGlobals "sum" = some none)
    (z11 : PySem.W.nsIn K mainGlobals "all" = some none)
    (z12 : PySem.W.nsIn K mainGlobals "sorted" = some none)
    (z13 : PySem.W.nsIn K mainGlobals "set" = some none)
    (z14 : PySem.W.nsIn K mainGlobals "any" = some none)
    (z15 : PySem.W.nsIn K mainGlobals "min" = some none)
    (z16 : PySem.W.nsIn K mainGlobals "zip" = some none)
    (z17 : PySem.W.nsIn K mainGlobals "enumerate" = some none)
    (z18 : PySem.W.nsIn K mainGlobals "str" = some none)
    (x1R : PySem.W.excIn K eR [.type "ValueError", .type "Exception", .type "BaseException", .type "object"] "ValueError.__new__" = true)
    (x2R : PySem.W.findIn K (.ref eR) "__getattribute__" = some (some (.builtin "BaseException.__getattribute__")))
    (x6R : PySem.W.findIn K (.ref eR) "__getattr__" = some none)
    (x7R : PySem.W.mroIn K eR (.type "BaseException") = some true)
    (x3R : PySem.W.findIn K (.ref eR) "__class__" = some (some (.builtin "object.__class__")))
    (x4R : PySem.W.mroIn K eR (.type "object") = some true)
    (x1T : PySem.W.excIn K eT [.type "ValueError", .type "Exception", .type "BaseException", .type "object"] "ValueError.__new__" = true)
    (x2T : PySem.W.findIn K (.ref eT) "__getattribute__" = some (some (.builtin "BaseException.__getattribute__")))
    (x6T : PySem.W.findIn K (.ref eT) "__getattr__" = some none)
    (x7T : PySem.W.mroIn K eT (.type "BaseException") = some true)
    (x3T : PySem.W.findIn K (.ref eT) "__class__" = some (some (.builtin "object.__class__")))
    (x4T : PySem.W.mroIn K eT (.type "object") = some true)
    (xg : PySem.W.specialIn K (.builtin "object.__class__") "__get__" = some (some (.builtin "getset_descriptor.__get__")))
    (xt : PySem.W.takesIn K (.builtin "object.__class__") = some true)
    (xb : PySem.W.mroIn K eF (.type "BaseException") = some true)
    (qF : PySem.W.isClsIn K eF = true)
    (tF : PySem.W.typeIn K (.ref eF) = some (.type "type"))
    (qR : PySem.W.isClsIn K eR = true)
    (tR : PySem.W.typeIn K (.ref eR) = some (.type "type"))
    (qS : PySem.W.isClsIn K eS = true)
    (tS : PySem.W.typeIn K (.ref eS) = some (.type "type"))
    (qD : PySem.W.isClsIn K eD = true)
    (tD : PySem.W.typeIn K (.ref eD) = some (.type "type"))
    (qT : PySem.W.isClsIn K eT = true)
    (tT : PySem.W.typeIn K (.ref eT) = some (.type "type"))
    (rRF : PySem.W.mroIn K eR (.ref eF) = some true)
    (rRR : PySem.W.mroIn K eR (.ref eR) = some true)
    (rRS : PySem.W.mroIn K eR (.ref eS) = some false)
    (rRD : PySem.W.mroIn K eR (.ref eD) = some false)
    (rRT : PySem.W.mroIn K eR (.ref eT) = some false)
    (rTF : PySem.W.mroIn K eT (.ref eF) = some true)
    (rTR : PySem.W.mroIn K eT (.ref eR) = some false)
    (rTS : PySem.W.mroIn K eT (.ref eS) = some false)
    (rTD : PySem.W.mroIn K eT (.ref eD) = some false)
    (rTT : PySem.W.mroIn K eT (.ref eT) = some true)
    : ∃ fd : FuncData, (∀ (s : Shared) (v : Value), BindsTo s fd ⟨[v], []⟩ [("_law_script", v)]) ∧ ∀ base : Heap, K.In base → base.Ns mainGlobals mg → FnOk l.prog w K mg base CX0 7 fa fd ["_law_script"] (spLaw K) := by
  have e := hfa.symm.trans (PySem.W.mg_of X G a17)
  cases e
  have B : Blt mg := ⟨PySem.W.mg_none_of X G z0, PySem.W.mg_none_of X G z1, PySem.W.mg_none_of X G z2, PySem.W.mg_none_of X G z3, PySem.W.mg_none_of X G z4, PySem.W.mg_none_of X G z5, PySem.W.mg_none_of X G z6, PySem.W.mg_none_of X G z7, PySem.W.mg_none_of X G z8, PySem.W.mg_none_of X G z9, PySem.W.mg_none_of X G z10, PySem.W.mg_none_of X G z11, PySem.W.mg_none_of X G z12, PySem.W.mg_none_of X G z13, PySem.W.mg_none_of X G z14, PySem.W.mg_none_of X G z15, PySem.W.mg_none_of X G z16, PySem.W.mg_none_of X G z17, PySem.W.mg_none_of X G z18⟩
  have C : Cst7 mg tk0 tk1 := ⟨PySem.W.mg_of X G e0, PySem.W.mg_of X G e1⟩
  have T : Ex7 K mg eF eR eS eD eT := ⟨PySem.W.mg_of X G ugF, PySem.W.mg_of X G ugR, PySem.W.mg_of X G ugS, PySem.W.mg_of X G ugD, PySem.W.mg_of X G ugT, ⟨⟨x1R, qR, x2R, x6R, x7R, x3R, xg, xt, x4R⟩, exm_own xb qF tF rRF, kit_own qR tR rRR rRR, kit_own qT tT rRT rRR, kit_own qD tD rRD rRR, kit_own qS tS rRS rRR⟩, ⟨⟨x1T, qT, x2T, x6T, x7T, x3T, xg, xt, x4T⟩, exm_own xb qF tF rTF, kit_own qR tR rTR rTT, kit_own qT tT rTT rTT, kit_own qD tD rTD rTT, kit_own qS tS rTS rTT⟩, exm_own x7R qR tR rRR⟩
  have F1 := fun_mk (st := sNum) l1 c1 k1
  have F2 := fun_mk (st := sPair) l2 c2 k2
  have F3 := fun_mk (st := sStone) l3 c3 k3
  have F4 := fun_mk (st := sChkRow) l4 c4 k4
  have F5 := fun_mk (st := s_is_short) l5 c5 k5
  have F6 := fun_mk (st := s_written) l6 c6 k6
  have F7 := fun_mk (st := s_is_written_number) l7 c7 k7
  have F8 := fun_mk (st := s_read_number) l8 c8 k8
  have F9 := fun_mk (st := s_read_stone) l9 c9 k9
  have F10 := fun_mk (st := s_read) l10 c10 k10
  have F11 := fun_mk (st := sRow) l11 c11 k11
  have F12 := fun_mk (st := s_law_number) l12 c12 k12
  have F13 := fun_mk (st := s_law_in) l13 c13 k13
  have F14 := fun_mk (st := s_law_refused) l14 c14 k14
  have F15 := fun_mk (st := sRight) l15 c15 k15
  have F16 := fun_mk (st := s_law_few) l16 c16 k16
  have F17 := fun_mk (st := sLaw) l17 c17 k17
  have b1 := F1.binds (ps := ["value"]) fun _ _ _ _ _ _ us hl => match us, hl with | [_], _ => rfl
  have b2 := F2.binds (ps := ["value"]) fun _ _ _ _ _ _ us hl => match us, hl with | [_], _ => rfl
  have b3 := F3.binds (ps := ["value"]) fun _ _ _ _ _ _ us hl => match us, hl with | [_], _ => rfl
  have b4 := F4.binds (ps := ["row"]) fun _ _ _ _ _ _ us hl => match us, hl with | [_], _ => rfl
  have b5 := F5.binds (ps := ["number"]) fun _ _ _ _ _ _ us hl => match us, hl with | [_], _ => rfl
  have b6 := F6.binds (ps := ["row"]) fun _ _ _ _ _ _ us hl => match us, hl with | [_], _ => rfl
  have b7 := F7.binds (ps := ["text"]) fun _ _ _ _ _ _ us hl => match us, hl with | [_], _ => rfl
  have b8 := F8.binds (ps := ["text"]) fun _ _ _ _ _ _ us hl => match us, hl with | [_], _ => rfl
  have b9 := F9.binds (ps := ["text"]) fun _ _ _ _ _ _ us hl => match us, hl with | [_], _ => rfl
  have b10 := F10.binds (ps := ["text"]) fun _ _ _ _ _ _ us hl => match us, hl with | [_], _ => rfl
  have b11 := F11.binds (ps := ["_law_script"]) fun _ _ _ _ _ _ us hl => match us, hl with | [_], _ => rfl
  have b12 := F12.binds (ps := ["_law_word"]) fun _ _ _ _ _ _ us hl => match us, hl with | [_], _ => rfl
  have b13 := F13.binds (ps := ["_law_text"]) fun _ _ _ _ _ _ us hl => match us, hl with | [_], _ => rfl
  have b14 := F14.binds (ps := ["_law_ask", "_law_thing", "_law_due"]) fun _ _ _ _ _ _ us hl => match us, hl with | [_, _, _], _ => rfl
  have b15 := F15.binds (ps := ["_law_text"]) fun _ _ _ _ _ _ us hl => match us, hl with | [_], _ => rfl
  have b16 := F16.binds (ps := []) fun _ _ _ _ _ _ us hl => match us, hl with | [], _ => rfl
  refine ⟨PySem.W.fnOf "law" "law" (defArgs sLaw) (defBody sLaw) (defScope sLaw) .none kV17 dc17 pm17 an17 cd17 ct17, fun s v => .of_eq rfl, fun base _ _ => ?_⟩
  have d_is_number : Dfn l.prog w K mg base "is_number" 1 ["value"] (spNum K) := ⟨f1, _, PySem.W.mg_of X G a1, k1, b1, ok_num F1 B⟩
  have d_is_pair : Dfn l.prog w K mg base "is_pair" 1 ["value"] (spPair K) := ⟨f2, _, PySem.W.mg_of X G a2, k2, b2, ok_pair F2 B⟩
  have d_is_stone : Dfn l.prog w K mg base "is_stone" 2 ["value"] (spStone) := ⟨f3, _, PySem.W.mg_of X G a3, k3, b3, ok_stone F3 B d_is_pair d_is_number⟩
  have d_ck : DfnE l.prog w K mg base "check_row" 3 ["row"] (spCk7 eR) := ⟨f4, _, PySem.W.mg_of X G a4, k4, b4, ok_ck7 F4 B T d_is_stone⟩
  have d_short : Dfn l.prog w K mg base "is_short" 1 ["number"] (spShort) := ⟨f5, _, PySem.W.mg_of X G a5, k5, b5, ok_short F5 B⟩
  have d_wri : DfnE l.prog w K mg base "written" 4 ["row"] (spWri eR) := ⟨f6, _, PySem.W.mg_of X G a6, k6, b6, ok_wri F6 B T d_ck d_short⟩
  have d_wn : Dfn l.prog w K mg base "is_written_number" 1 ["text"] (spWn) := ⟨f7, _, PySem.W.mg_of X G a7, k7, b7, ok_wn F7 B C⟩
  have d_rn : DfnG Ga l.prog w K mg base "read_number" 2 ["text"] (spRn eT) := ⟨f8, _, PySem.W.mg_of X G a8, k8, b8, ok_rn F8 B T d_wn⟩
  have d_rs : DfnG Ga l.prog w K mg base "read_stone" 3 ["text"] (spRs eT) := ⟨f9, _, PySem.W.mg_of X G a9, k9, b9, ok_rs F9 B T d_rn⟩
  have d_read : DfnG Ga l.prog w K mg base "read" 4 ["text"] (spRead K eT) := ⟨f10, _, PySem.W.mg_of X G a10, k10, b10, ok_read F10 B T d_rs d_ck⟩
  have d_row : Dfn l.prog w K mg base "_law_row" 1 ["_law_script"] (spRow K) := ⟨f11, _, PySem.W.mg_of X G a11, k11, b11, ok_row F11 B⟩
  have d_num : Dfn l.prog w K mg base "_law_number" 1 ["_law_word"] (spLNum) := ⟨f12, _, PySem.W.mg_of X G a12, k12, b12, ok_lnum F12 B⟩
  have d_in : Dfn l.prog w K mg base "_law_in" 2 ["_law_text"] (spIn) := ⟨f13, _, PySem.W.mg_of X G a13, k13, b13, ok_in F13 B d_num⟩
  have d_ref : Dfn l.prog w K mg base "_law_refused" 5 ["_law_ask", "_law_thing", "_law_due"] (spRef l.prog w K mg base eR eT) := ⟨f14, _, PySem.W.mg_of X G a14, k14, b14, ok_ref F14 B T⟩
  have d_right : Dfn l.prog w K mg base "_law_right" 6 ["_law_text"] (spRight7) := ⟨f15, _, PySem.W.mg_of X G a15, k15, b15, ok_right7 F15 B d_in d_ref d_read d_wri⟩
  have d_few : Dfn l.prog w K mg base "_law_few" 1 [] (spFew7) := ⟨f16, _, PySem.W.mg_of X G a16, k16, b16, ok_few7 F16 ⟩
  exact ok_law7 F17 B d_row d_ref d_read d_wri d_right d_few
theorem walk {l : PySem.W.OpenLaw} {q : Program} {loose : List Str} {XP : (Str → Option Value) → Heap → Prop} {YP : World → Heap → Prop} {d : DefRec} {K : Params → PySem.W.Frag} (hn : l.most = some 63) (hdf : d.params.defaults = [])
    (hY : ∀ (w : World) (h : Heap), YP w h → (K w.params).In h)
    (F : ∀ (w : World) (mg : Str → Option Value) (fa : Addr) (h : Heap), (K w.params).In h → h.Ns mainGlobals mg → mg d.name = some (.ref fa) →
      ∃ fd : FuncData, (∀ (s : Shared) (u : Value), BindsTo s fd ⟨[u], []⟩ [("_law_script", u)]) ∧ ∀ base : Heap, (K w.params).In base → base.Ns mainGlobals mg → FnOk l.prog w (K w.params) mg base CX0 7 fa fd ["_law_script"] (spLaw (K w.params))) :
    PySem.W.WalkO q loose XP YP l.row.toRowW d [] (fun f vs => PySem.call f vs) :=
  L2.walk_of (n := 63) (k := 7) (x := "_law_script") (CX := fun _ => CX0) (sp := fun w => spLaw (K w.params)) hn (by decide) hdf ⟨rfl, by decide, by decide⟩ hY F (fun _ _ a ns hl _ hS => ⟨a, ns, rfl, hS, hl, fun _ => rfl⟩) fun _ _ _ _ _ z => z
end Fk
open PySem PySem.W PyProof.Rows
set_option maxRecDepth 100000 in
set_option maxHeartbeats 0 in
theorem PySem.Challenge.cw_fallrow_k07_texts_holds : PySem.Challenge.rw_fallrow_k07_texts.Holds := by
  w_on; o_law; k_head; (case hw => w_witness2)
  k_fill
  refine Fk.walk (l := PySem.Challenge.rw_fallrow_k07_texts) rfl rfl (fun w h Y => PySem.W.kIn_of Y) ?F
  case F =>
    intro w mg fa h KX G hmg
    refine' Fk.all_mk KX G hmg ?ugF ?ugR ?ugS ?ugD ?ugT ?a1 ?l1 ?c1 ?k1 ?a2 ?l2 ?c2 ?k2 ?a3 ?l3 ?c3 ?k3 ?a4 ?l4 ?c4 ?k4 ?a5 ?l5 ?c5 ?k5 ?a6 ?l6 ?c6 ?k6 ?a7 ?l7 ?c7 ?k7 ?a8 ?l8 ?c8 ?k8 ?a9 ?l9 ?c9 ?k9 ?a10 ?l10 ?c10 ?k10 ?a11 ?l11 ?c11 ?k11 ?a12 ?l12 ?c12 ?k12 ?a13 ?l13 ?c13 ?k13 ?a14 ?l14 ?c14 ?k14 ?a15 ?l15 ?c15 ?k15 ?a16 ?l16 ?c16 ?k16 ?a17 ?l17 ?c17 ?k17 ?e0 ?e1 ?z0 ?z1 ?z2 ?z3 ?z4 ?z5 ?z6 ?z7 ?z8 ?z9 ?z10 ?z11 ?z12 ?z13 ?z14 ?z15 ?z16 ?z17 ?z18 ?x1R ?x2R ?x6R ?x7R ?x3R ?x4R ?x1T ?x2T ?x6T ?x7T ?x3T ?x4T ?xg ?xt ?xb ?qF ?tF ?qR ?tR ?qS ?tS ?qD ?tD ?qT ?tT ?rRF ?rRR ?rRS ?rRD ?rRT ?rTF ?rTR ?rTS ?rTD ?rTT
    (case ugF => k_is)
    (case ugR => k_is)
    (case ugS => k_is)
    (case ugD => k_is)
    (case ugT => k_is)
    (case a1 => k_is)
    (case l1 => k_is)
    (case c1 => k_is)
    (case k1 => k_is)
    (case a2 => k_is)
    (case l2 => k_is)
    (case c2 => k_is)
    (case k2 => k_is)
    (case a3 => k_is)
    (case l3 => k_is)
    (case c3 => k_is)
    (case k3 => k_is)
    (case a4 => k_is)
    (case l4 => k_is)
    (case c4 => k_is)
    (case k4 => k_is)
    (case a5 => k_is)
    (case l5 => k_is)
    (case c5 => k_is)
    (case k5 => k_is)
    (case a6 => k_is)
    (case l6 => k_is)
    (case c6 => k_is)
    (case k6 => k_is)
    (case a7 => k_is)
    (case l7 => k_is)
    (case c7 => k_is)
    (case k7 => k_is)
    (case a8 => k_is)
    (case l8 => k_is)
    (case c8 => k_is)
    (case k8 => k_is)
    (case a9 => k_is)
    (case l9 => k_is)
    (case c9 => k_is)
    (case k9 => k_is)
    (case a10 => k_is)
    (case l10 => k_is)
    (case c10 => k_is)
    (case k10 => k_is)
    (case a11 => k_is)
    (case l11 => k_is)
    (case c11 => k_is)
    (case k11 => k_is)
    (case a12 => k_is)
    (case l12 => k_is)
    (case c12 => k_is)
    (case k12 => k_is)
    (case a13 => k_is)
    (case l13 => k_is)
    (case c13 => k_is)
    (case k13 => k_is)
    (case a14 => k_is)
    (case l14 => k_is)
    (case c14 => k_is)
    (case k14 => k_is)
    (case a15 => k_is)
    (case l15 => k_is)
    (case c15 => k_is)
    (case k15 => k_is)
    (case a16 => k_is)
    (case l16 => k_is)
    (case c16 => k_is)
    (case k16 => k_is)
    (case a17 => k_is)
    (case l17 => k_is)
    (case c17 => k_is)
    (case k17 => k_is)
    (case e0 => k_is)
    (case e1 => k_is)
    (case z0 => k_is)
    (case z1 => k_is)
    (case z2 => k_is)
    (case z3 => k_is)
    (case z4 => k_is)
    (case z5 => k_is)
    (case z6 => k_is)
    (case z7 => k_is)
    (case z8 => k_is)
    (case z9 => k_is)
    (case z10 => k_is)
    (case z11 => k_is)
    (case z12 => k_is)
    (case z13 => k_is)
    (case z14 => k_is)
    (case z15 => k_is)
    (case z16 => k_is)
    (case z17 => k_is)
    (case z18 => k_is)
    (case x1R => k_exc)
    (case x2R => k_is)
    (case x6R => k_is)
    (case x7R => k_is)
    (case x3R => k_is)
    (case x4R => k_is)
    (case x1T => k_exc)
    (case x2T => k_is)
    (case x6T => k_is)
    (case x7T => k_is)
    (case x3T => k_is)
    (case x4T => k_is)
    (case xg => k_is)
    (case xt => k_is)
    (case xb => k_is)
    (case qF => k_is)
    (case tF => k_is)
    (case qR => k_is)
    (case tR => k_is)
    (case qS => k_is)
    (case tS => k_is)
    (case qD => k_is)
    (case tD => k_is)
    (case qT => k_is)
    (case tT => k_is)
    (case rRF => k_is)
    (case rRR => k_is)
    (case rRS => k_is)
    (case rRD => k_is)
    (case rRT => k_is)
    (case rTF => k_is)
    (case rTR => k_is)
    (case rTS => k_is)
    (case rTD => k_is)
    (case rTT => k_is)
#print axioms PySem.Challenge.cw_fallrow_k07_texts_holds

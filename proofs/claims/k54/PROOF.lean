import PyProof.Rows.All
import KE.KNestM
import Wide.All
import OpenK.AllK
import Wide.FinOn
import Lean
import PyProof.EqAt
import PyProof.EqKinds
import PyProof.TupleCall
import KE.KSortTup
import KE.KItemsList
import PyProof.Draws
import PyProof.EnumFor
import PyProof.EnumStmt
import PyProof.AttrMissHeap
import PyProof.WalksS
import PyProof.WalksMore
import KE.KDictOf
import KE.KDictSum
import PyProof.TupleKey
import PyProof.P3Eq
import PyProof.Rows.TupTab
import PyProof.DictRoadsH
import PyProof.MinMaxWalk
import PyProof.WalkInts
import PyProof.FactsAll.tuple_1
import PyProof.FactsAll.tuple_2
import PyProof.P3In
import PyProof.Walks
import PyProof.Seq
import PyProof.Rows.CallKwBuiltin
import KE.KRevSl
import PySem.Challenge.RW_likewise_k54_steps_counted
set_option Elab.async false
set_option linter.all false
set_option maxRecDepth 100000
namespace L2
open PySem PySem.Spec PyProof.Rows
abbrev Key := Sum Int Str
def keyIs : Key → Value → Bool
  | .inl k, v => Value.isInt k v
  | .inr x, v => Value.isStrOf x v
def keyH (w : World) : Key → Int
  | .inl k => hashInt k
  | .inr x => hashStr w x
theorem keyIs_shape : ∀ {k : Key} {v : Value}, keyIs k v = true → (∃ i t, k = Sum.inl i ∧ v = Value.int i t) ∨ (∃ x t, k = Sum.inr x ∧ v = Value.str x t)
  | .inl i, v, h => by
    obtain ⟨t, e⟩ := Value.isInt_shape (k := i) (v := v) h
    exact .inl ⟨i, t, rfl, e⟩
  | .inr x, v, h => by
    obtain ⟨t, e⟩ := Value.isStrOf_shape (x := x) (v := v) h
    exact .inr ⟨x, t, rfl, e⟩
theorem keyIs_int (i : Int) (t : Tok) : keyIs (.inl i) (.int i t) = true := by simp [keyIs, Value.isInt]
theorem keyIs_str (x : Str) (t : Tok) : keyIs (.inr x) (.str x t) = true := by simp [keyIs, Value.isStrOf]
theorem key_ll (a b : Int) : decide ((Sum.inl a : Key) = Sum.inl b) = (a == b) := by
  by_cases e : a = b
  · subst e; simp
  · have h : ¬ (Sum.inl a : Key) = Sum.inl b := fun q => e (Sum.inl.inj q)
    rw [decide_eq_false h]
    exact (beq_eq_false_iff_ne.mpr e).symm
theorem key_rr (a b : Str) : decide ((Sum.inr a : Key) = Sum.inr b) = decide (a = b) := by
  by_cases e : a = b
  · subst e; simp
  · have h : ¬ (Sum.inr a : Key) = Sum.inr b := fun q => e (Sum.inr.inj q)
    rw [decide_eq_false h, decide_eq_false e]
theorem key_lr (a : Int) (b : Str) : decide ((Sum.inl a : Key) = Sum.inr b) = false := decide_eq_false (fun q => nomatch q)
theorem key_rl (a : Str) (b : Int) : decide ((Sum.inr a : Key) = Sum.inl b) = false := decide_eq_false (fun q => nomatch q)
def mixKind (prog : Program) (w : World) : PySem.KeyKind prog w Key where
  is := keyIs
  hash := keyH w
  inj := fun v a b ha hb => by
    rcases keyIs_shape ha with ⟨i, t, rfl, rfl⟩ | ⟨x, t, rfl, rfl⟩
    · rcases keyIs_shape hb with ⟨j, u, rfl, e⟩ | ⟨y, u, rfl, e⟩
      · injection e with e1 _; rw [e1]
      · exact nomatch e
    · rcases keyIs_shape hb with ⟨j, u, rfl, e⟩ | ⟨y, u, rfl, e⟩
      · exact nomatch e
      · injection e with e1 _; rw [e1]
  byValue := fun k v h => by
    rcases keyIs_shape h with ⟨i, t, rfl, rfl⟩ | ⟨x, t, rfl, rfl⟩ <;> rfl
  pyHash := fun hv h => by
    rcases keyIs_shape hv with ⟨i, t, rfl, rfl⟩ | ⟨x, t, rfl, rfl⟩
    · exact wpAny_pyHash_int h
    · exact wpAny_pyHash_str h
  eqBool := fun hu hv h => by
    rcases keyIs_shape hu with ⟨i, t, rfl, rfl⟩ | ⟨x, t, rfl, rfl⟩
    · rcases keyIs_shape hv with ⟨j, u, rfl, rfl⟩ | ⟨y, u, rfl, rfl⟩
      · rw [key_ll] at h; exact wpAny_eqBool_int h
      · rw [key_lr] at h; exact SeqAt.EqAt.int_str i t y u _ _ _ _ h
    · rcases keyIs_shape hv with ⟨j, u, rfl, rfl⟩ | ⟨y, u, rfl, rfl⟩
      · rw [key_rl] at h; exact SeqAt.EqAt.str_int x t j u _ _ _ _ h
      · rw [key_rr] at h; exact wpAny_eqBool_str h
  «strs» := fun k x t v h => by
    rcases keyIs_shape h with ⟨i, u, rfl, e⟩ | ⟨y, u, rfl, e⟩
    · exact nomatch e
    · injection e with e1 _
      subst e1
      cases v <;> rfl
theorem mixKind_int (prog : Program) (w : World) (i : Int) (t : Tok) : (mixKind prog w).is (.inl i) (.int i t) = true := keyIs_int i t
theorem mixKind_str (prog : Program) (w : World) (x : Str) (t : Tok) : (mixKind prog w).is (.inr x) (.str x t) = true := keyIs_str x t
end L2
namespace L2
open PySem PySem.Spec PyProof.Rows
inductive V where
  | non | bl (b : Bool) | int (i : Int) | str (x : Str) | byt (b : Array UInt8) | flt (b : UInt64) | ref (a : Addr) | ty (n : String)
  deriving DecidableEq
def RelV : V → Value → Prop
  | .non, u => u = Value.none
  | .bl b, u => u = Value.bool b
  | .int i, u => ∃ t, u = Value.int i t
  | .str x, u => ∃ t, u = Value.str x t
  | .byt b, u => ∃ t, u = Value.bytes b t
  | .flt b, u => ∃ t, u = Value.float b t
  | .ref a, u => u = Value.ref a
  | .ty n, u => u = Value.type n
abbrev Vals : List V → List Value → Prop := Paired RelV
theorem Vals.length {xs : List V} {us : List Value} (r : Vals xs us) : xs.length = us.length := Paired.length r
theorem Vals.get : ∀ {xs : List V} {us : List Value} {i : Nat} {x : V}, Vals xs us → xs[i]? = some x → ∃ u, us[i]? = some u ∧ RelV x u
  | _, _, _, _, .nil, e => by simp at e
  | _, _, 0, _, .cons r _, e => by simp at e; subst e; exact ⟨_, rfl, r⟩
  | _, _, i + 1, x, .cons _ t, e => by
    obtain ⟨u, h1, h2⟩ := Vals.get (i := i) (x := x) t (by simpa using e)
    exact ⟨u, by simpa using h1, h2⟩
theorem Vals.set {x : V} {u : Value} (r : RelV x u) : ∀ {xs : List V} {us : List Value} (i : Nat), Vals xs us → Vals (xs.set i x) (us.set i u)
  | _, _, _, .nil => .nil
  | _, _, 0, .cons _ t => .cons r t
  | _, _, i + 1, .cons q t => .cons q (Vals.set r i t)
theorem Vals.append : ∀ {xs ys : List V} {us ws : List Value}, Vals xs us → Vals ys ws → Vals (xs ++ ys) (us ++ ws)
  | _, _, _, _, .nil, s => s
  | _, _, _, _, .cons r t, s => .cons r (Vals.append t s)
theorem Vals.take : ∀ {xs : List V} {us : List Value} (n : Nat), Vals xs us → Vals (xs.take n) (us.take n)
  | _, _, 0, _ => .nil
  | _, _, _ + 1, .nil => .nil
  | _, _, n + 1, .cons r t => .cons r (Vals.take n t)
theorem Vals.drop : ∀ {xs : List V} {us : List Value} (n : Nat), Vals xs us → Vals (xs.drop n) (us.drop n)
  | _, _, 0, r => r
  | _, _, _ + 1, .nil => .nil
  | _, _, n + 1, .cons _ t => Vals.drop n t
theorem Vals.none_of : ∀ {xs : List V} {us : List Value} {i : Nat}, Vals xs us → xs[i]? = none → us[i]? = none := fun {xs us i} r e => by
  have h1 := r.length
  have h2 : xs.length ≤ i := List.getElem?_eq_none_iff.mp e
  exact List.getElem?_eq_none_iff.mpr (by omega)
def RelO : Option V → Option Value → Prop
  | some v, some u => RelV v u
  | none, none => True
  | _, _ => False
def KV {κ : Type} : List (κ × V) → List (κ × Value) → Prop := Paired fun (p : κ × V) (q : κ × Value) => p.1 = q.1 ∧ RelV p.2 q.2
def kV : Key → V
  | .inl i => .int i
  | .inr x => .str x
inductive HO where
  | lst (xs : List V)
  | tup (xs : List V)
  | dK (kvs : List (Key × V)) | dT (kvs : List (List Key × V))
  | set (S : Int → Bool) (n : Nat)
  | ins (C dx : Addr) (fs : List (Str × V))
  | own (x : Addr)
  | xd (fs : List (Str × V))
  | met (f x : Addr)
  | rng (lo hi : Int)
  | frz (o : Obj) (u : HO)
  | tbl (ps : Array Value)
  | ext (φ : Heap → Prop)
abbrev Hp := Addr → Option HO
def upd (H : Hp) (a : Addr) (o : HO) : Hp := fun b => if b = a then some o else H b
theorem upd_same {H : Hp} {a : Addr} {o : HO} : upd H a o a = some o := by unfold upd; rw [if_pos rfl]
theorem upd_ne {H : Hp} {a b : Addr} {o : HO} (h : b ≠ a) : upd H a o b = H b := by unfold upd; rw [if_neg h]
theorem ne_of {H : Hp} {a b : Addr} {o u : HO} (h : H a = some o) (h' : H b = some u) (d : o ≠ u) : a ≠ b := by
  intro e; subst e; rw [h] at h'; exact d (Option.some.inj h')
theorem ne_of_none {H : Hp} {a b : Addr} {o : HO} (h : H a = some o) (h' : H b = none) : a ≠ b := by
  intro e; subst e; rw [h] at h'; cases h'
section
variable (P : Program) (w : World)
def ObjOk (H : Hp) (h : Heap) (a : Addr) : HO → Prop
  | .lst xs => xs.length ≤ sizeLine ∧ ∃ (its : List Value) (n : Nat), Vals xs its ∧ h.get? a = some { cls := .type "list", data := .seq its.toArray n }
  | .tup xs => xs.length ≤ sizeLine ∧ (∃ its : List Value, Vals xs its ∧ IsTup h a its.toArray) ∧ ∃ o, h.get? a = some o ∧ o.dict = none
  | .dK kvs => kvs.length ≤ sizeLine ∧ (a == sysModules) = false ∧ ∃ vs, KV kvs vs ∧ h.DictOf (mixKind P w) a vs
  | .dT kvs => kvs.length ≤ sizeLine ∧ (a == sysModules) = false ∧ ∃ xs : List (List Key × Addr × Value),
      Paired (fun (p : List Key × V) (q : List Key × Addr × Value) => p.1 = q.1 ∧ H q.2.1 = some (.tup (p.1.map kV)) ∧ RelV p.2 q.2.2) kvs xs ∧
      ∃ o es ep, h.get? a = some o ∧ o.ExactDict ∧ o.data = .dict es ep ∧ es.toList = xs.map (entryOfKey (tupleKind (mixKind P w))) ∧ (xs.map (·.1)).Nodup
  | .set S n => h.SetOf (intKind P w) a S n
  | .ins C dx fs => H dx = some (.own a) ∧ fs.length ≤ 1000 ∧ dx ≠ a ∧ h.get? a = some (PySem.W.instObj C dx) ∧
      ∃ mA, h.Ns1 dx mA ∧ (∀ f, RelO (fs.lookup f) (mA f)) ∧ PySem.Within mA (fs.map (·.1))
  | .own _ => ∃ o, h.get? a = some o
  | .xd fs => ∃ mA, h.Ns1 a mA ∧ ∀ f, RelO (fs.lookup f) (mA f)
  | .rng lo hi => ∃ t u v, h.get? a = some { cls := .type "range", data := .fields #[.int lo t, .int hi u, .int 1 v] }
  | .frz o u => h.get? a = some o ∧ ObjOk H h a u
  | .tbl ps => h.get? a = some { cls := .none, data := .fields ps }
  | .met f x => h.get? a = some (PySem.W.methodObj (.ref f) (.ref x))
  | .ext φ => φ h ∧ (∃ o, h.get? a = some o) ∧ ∀ h1 h2 : Heap, φ h1 → (∀ o, h1.get? a = some o → h2.get? a = some o) → φ h2
def HOk (H : Hp) (h : Heap) : Prop := ∀ a o, H a = some o → ObjOk P w H h a o
end
section
variable {P : Program} {w : World} {H H' : Hp} {h h' : Heap} {a : Addr} {o : HO}
theorem ObjOk.lt (x : ObjOk P w H h a o) : a < h.objs.size := by
  cases o with
  | lst xs => obtain ⟨_, _, _, _, e⟩ := x; exact Heap.lt_size e
  | tup xs => obtain ⟨_, ⟨_, _, p⟩, _⟩ := x; exact p.lt
  | dK kvs => obtain ⟨_, _, _, _, o, _, _, e, _⟩ := x; exact Heap.lt_size e
  | dT kvs => obtain ⟨_, _, _, _, o, _, _, e, _⟩ := x; exact Heap.lt_size e
  | set S n => obtain ⟨o, _, _, _, e, _⟩ := x; exact Heap.lt_size e
  | ins C dx fs => obtain ⟨_, _, _, e, _⟩ := x; exact Heap.lt_size e
  | own y => obtain ⟨_, e⟩ := x; exact Heap.lt_size e
  | xd fs => obtain ⟨_, ⟨_, _, _, e, _⟩, _⟩ := x; exact Heap.lt_size e
  | rng lo hi => obtain ⟨_, _, _, e⟩ := x; exact Heap.lt_size e
  | frz ob u => obtain ⟨e, _⟩ := x; exact Heap.lt_size e
  | tbl ps => exact Heap.lt_size (show h.get? a = some _ from x)
  | met f y => exact Heap.lt_size (show h.get? a = some _ from x)
  | ext φ => obtain ⟨_, ⟨_, e⟩, _⟩ := x; exact Heap.lt_size e
theorem Paired.mapP {α β : Type} {F G : α → β → Prop} : ∀ {l₁ : List α} {l₂ : List β}, Paired F l₁ l₂ → (∀ a b, F a b → G a b) → Paired G l₁ l₂
  | _, _, .nil, _ => .nil
  | _, _, .cons r t, f => .cons (f _ _ r) (Paired.mapP t f)
theorem ObjOk.stay (x : ObjOk P w H h a o) (k : ∀ b u, (b = a ∨ H b = some (.own a)) → h.get? b = some u → h'.get? b = some u)
    (ho : ∀ b, H b = some (.own a) → H' b = some (.own a)) (ht : ∀ b xs, H b = some (.tup xs) → H' b = some (.tup xs)) : ObjOk P w H' h' a o := by
  induction o with
  | lst xs => obtain ⟨z, its, n, r, e⟩ := x; exact ⟨z, its, n, r, k _ _ (.inl rfl) e⟩
  | tup xs => obtain ⟨z, ⟨its, r, ob, e, c⟩, od, e2, c2⟩ := x; exact ⟨z, ⟨its, r, ob, k _ _ (.inl rfl) e, c⟩, od, k _ _ (.inl rfl) e2, c2⟩
  | dK kvs => obtain ⟨z, y, vs, r, ob, es, ep, e, c⟩ := x; exact ⟨z, y, vs, r, ob, es, ep, k _ _ (.inl rfl) e, c⟩
  | dT kvs =>
    obtain ⟨z, y, xs, r, ob, es, ep, e, c⟩ := x
    exact ⟨z, y, xs, Paired.mapP r fun p q z => ⟨z.1, ht _ _ z.2.1, z.2.2⟩, ob, es, ep, k _ _ (.inl rfl) e, c⟩
  | set S n => obtain ⟨ob, es, ep, t, e, c⟩ := x; exact ⟨ob, es, ep, t, k _ _ (.inl rfl) e, c⟩
  | ins C dx fs =>
    obtain ⟨d, z, ne, e, mA, ⟨od, es, ep, e2, c⟩, r⟩ := x
    exact ⟨ho _ d, z, ne, k _ _ (.inl rfl) e, mA, ⟨od, es, ep, k _ _ (.inr d) e2, c⟩, r⟩
  | own y => obtain ⟨ob, e⟩ := x; exact ⟨ob, k _ _ (.inl rfl) e⟩
  | xd fs => obtain ⟨mA, ⟨od, es, ep, e, c⟩, r⟩ := x; exact ⟨mA, ⟨od, es, ep, k _ _ (.inl rfl) e, c⟩, r⟩
  | rng lo hi => obtain ⟨t, u, v, e⟩ := x; exact ⟨t, u, v, k _ _ (.inl rfl) e⟩
  | frz ob u ih => obtain ⟨e, q⟩ := x; exact ⟨k _ _ (.inl rfl) e, ih q⟩
  | tbl ps =>
    have e : h.get? a = some { cls := .none, data := .fields ps } := x
    show h'.get? a = some { cls := .none, data := .fields ps }
    exact k a _ (.inl rfl) e
  | met f y =>
    have e : h.get? a = some (PySem.W.methodObj (.ref f) (.ref y)) := x
    show h'.get? a = some (PySem.W.methodObj (.ref f) (.ref y))
    exact k a _ (.inl rfl) e
  | ext φ => obtain ⟨p, ⟨o, e⟩, st⟩ := x; exact ⟨st _ _ p fun o q => k _ _ (.inl rfl) q, ⟨o, k _ _ (.inl rfl) e⟩, st⟩
theorem HOk.lt (x : HOk P w H h) (e : H a = some o) : a < h.objs.size := (x a o e).lt
theorem HOk.fresh (x : HOk P w H h) (e : h.objs.size ≤ a) : H a = none := by
  cases q : H a with
  | none => rfl
  | some u => exact absurd (Nat.lt_of_lt_of_le (x.lt q) e) (Nat.lt_irrefl _)
theorem HOk.kept (x : HOk P w H h) (k : ∀ b u, h.get? b = some u → h'.get? b = some u) : HOk P w H h' := fun a o e =>
  (x a o e).stay (fun b u _ q => k b u q) (fun _ q => q) fun _ _ q => q
theorem HOk.laid (x : HOk P w H h) (k : ∀ b u, h.get? b = some u → h'.get? b = some u) (hp : h.objs.size ≤ a) (new : ObjOk P w (upd H a o) h' a o) : HOk P w (upd H a o) h' := fun b u e => by
  have hn := x.fresh hp
  by_cases hb : b = a
  · subst hb; rw [upd_same] at e; cases e; exact new
  · rw [upd_ne hb] at e
    exact (x b u e).stay (fun c v _ q => k c v q) (fun c q => by rw [upd_ne (ne_of_none q hn)]; exact q) fun c xs q => by rw [upd_ne (ne_of_none q hn)]; exact q
end
def Rd (H : Hp) (a : Addr) (u : HO) : Prop := H a = some u ∨ ∃ o, H a = some (.frz o u)
theorem Rd.of {H : Hp} {a : Addr} {u : HO} (h : H a = some u) : Rd H a u := .inl h
theorem Rd.ok {P : Program} {w : World} {H : Hp} {h : Heap} {a : Addr} {u : HO} (r : Rd H a u) (x : HOk P w H h) : ObjOk P w H h a u := by
  rcases r with r | ⟨o, r⟩
  · exact x a u r
  · obtain ⟨_, q⟩ := x a _ r
    exact q
def Mut : Option HO → Prop
  | some (.lst _) => True
  | some (.dK _) => True
  | some (.dT _) => True
  | some (.set _ _) => True
  | some (.ins _ _ _) => True
  | some (.ext _) => True
  | _ => False
section
variable {P : Program} {w : World} {H : Hp} {h h' : Heap} {x e : Addr} {o' : HO}
theorem HOk.write (ok : HOk P w H h) (mu : Mut (H x)) (he : e = x ∨ H e = some (.own x)) (k : ∀ b u, b ≠ e → h.get? b = some u → h'.get? b = some u) (heo : ∃ u, h'.get? e = some u)
    (new : ObjOk P w (upd H x o') h' x o') : HOk P w (upd H x o') h' := fun b u q => by
  have nown : ∀ c y, H c = some (.own y) → c ≠ x := fun c y r z => by subst z; rw [r] at mu; exact mu
  have ntup : ∀ c xs, H c = some (.tup xs) → c ≠ x := fun c xs r z => by subst z; rw [r] at mu; exact mu
  by_cases hb : b = x
  · subst hb; rw [upd_same] at q; cases q; exact new
  · rw [upd_ne hb] at q
    by_cases hbe : b = e
    · have q' : H b = some (.own x) := by
        rcases he with z | z
        · exact absurd (hbe.trans z) hb
        · rw [hbe]; exact z
      rw [q] at q'; cases q'
      obtain ⟨v, hv⟩ := heo
      exact ⟨v, by rw [hbe]; exact hv⟩
    · refine (ok b u q).stay (fun c v hc r => k c v ?_ r) (fun c r => by rw [upd_ne (nown c b r)]; exact r) fun c xs r => by rw [upd_ne (ntup c xs r)]; exact r
      rcases hc with rfl | hc
      · exact hbe
      · rintro rfl
        rcases he with z | z
        · exact nown c b hc z
        · rw [hc] at z; cases z; exact hb rfl
end
structure Un (fs ex : List Addr) (H H' : Hp) (h h' : Heap) : Prop where
  keep : ∀ b o, h.get? b = some o → H b = none → b ∉ fs → b ∉ ex → h'.get? b = some o
  slot : ∀ b o, h.get? b = some o → H b = none → b ∈ fs → b ∉ ex → ∃ sl, h'.get? b = some { o with slots := sl }
  free : ∀ b o, h.get? b = some o → H b = none → b ∉ ex → H' b = none
  there : ∀ b o, h.get? b = some o → b ∉ ex → ∃ o', h'.get? b = some o'
  tups : ∀ b xs, H b = some (.tup xs) → H' b = some (.tup xs)
  frzs : ∀ b o u, H b = some (.frz o u) → H' b = some (.frz o u)
  tbls : ∀ b ps, H b = some (.tbl ps) → ∃ more, H' b = some (.tbl (ps ++ more))
section
variable {fs fs' ex ex' : List Addr} {H H1 H2 : Hp} {h h1 h2 h' : Heap} {a x e : Addr} {o : HO}
theorem Un.any (u : Un fs ex H H1 h h1) {b : Addr} {ob : Obj} (q : h.get? b = some ob) (n : H b = none) (hx : b ∉ ex) : ∃ sl, h1.get? b = some { ob with slots := sl } := by
  by_cases hb : b ∈ fs
  · exact u.slot b ob q n hb hx
  · exact ⟨ob.slots, u.keep b ob q n hb hx⟩
theorem Un.trans (a : Un fs ex H H1 h h1) (b : Un fs ex H1 H2 h1 h2) : Un fs ex H H2 h h2 where
  keep := fun c ob q n hc hx => b.keep c ob (a.keep c ob q n hc hx) (a.free c ob q n hx) hc hx
  slot := fun c ob q n hc hx => by
    obtain ⟨sl, e1⟩ := a.slot c ob q n hc hx
    obtain ⟨sl', e2⟩ := b.slot c _ e1 (a.free c ob q n hx) hc hx
    exact ⟨sl', e2⟩
  free := fun c ob q n hx => by
    obtain ⟨o', e1⟩ := a.there c ob q hx
    exact b.free c o' e1 (a.free c ob q n hx) hx
  there := fun c ob q hx => by
    obtain ⟨o', e1⟩ := a.there c ob q hx
    exact b.there c o' e1 hx
  tups := fun c xs q => b.tups c xs (a.tups c xs q)
  frzs := fun c ob xs q => b.frzs c ob xs (a.frzs c ob xs q)
  tbls := fun c ps q => by
    obtain ⟨m1, e1⟩ := a.tbls c ps q
    obtain ⟨m2, e2⟩ := b.tbls c _ e1
    exact ⟨m1 ++ m2, by rw [e2, Array.append_assoc]⟩
theorem Un.kept (k : ∀ b u, h.get? b = some u → h'.get? b = some u) : Un fs ex H H h h' :=
  ⟨fun b ob q _ _ _ => k b ob q, fun b ob q _ _ _ => ⟨ob.slots, k b ob q⟩, fun _ _ _ n _ => n, fun b ob q _ => ⟨ob, k b ob q⟩, fun _ _ q => q, fun _ _ _ q => q, fun _ ps q => ⟨#[], by rw [q]; simp⟩⟩
theorem Un.refl : Un fs ex H H h h := Un.kept fun _ _ q => q
theorem Un.laid (k : ∀ b u, h.get? b = some u → h'.get? b = some u) (hp : h.objs.size ≤ a) (hn : H a = none) : Un fs ex H (upd H a o) h h' where
  keep := fun b u q _ _ _ => k b u q
  slot := fun b u q _ _ _ => ⟨u.slots, k b u q⟩
  free := fun b u q n _ => by rw [upd_ne (Nat.ne_of_lt (Nat.lt_of_lt_of_le (Heap.lt_size q) hp))]; exact n
  there := fun b u q _ => ⟨u, k b u q⟩
  tups := fun b xs q => by rw [upd_ne (ne_of_none q hn)]; exact q
  frzs := fun b u xs q => by rw [upd_ne (ne_of_none q hn)]; exact q
  tbls := fun b ps q => ⟨#[], by rw [upd_ne (ne_of_none q hn), q]; simp⟩
theorem Un.write (mu : Mut (H x)) (he : e = x ∨ H e = some (.own x)) (k : ∀ b u, b ≠ e → h.get? b = some u → h'.get? b = some u) (heo : ∃ u, h'.get? e = some u) : Un fs ex H (upd H x o) h h' := by
  have hx : ∀ b, H b = none → b ≠ x := fun b n z => by subst z; rw [n] at mu; exact mu
  have hb : ∀ b, H b = none → b ≠ e := fun b n z => by
    subst z
    rcases he with r | r
    · exact hx b n r
    · rw [n] at r; cases r
  have hm : ∀ b u, H b = some u → ¬ Mut (some u) → b ≠ x := fun b u q nm z => by subst z; rw [q] at mu; exact nm mu
  refine ⟨fun b u q n _ _ => k b u (hb b n) q, fun b u q n _ _ => ⟨u.slots, k b u (hb b n) q⟩, fun b u q n _ => by rw [upd_ne (hx b n)]; exact n, fun b u q _ => ?_,
    fun b xs q => by rw [upd_ne (hm b _ q fun z => z)]; exact q, fun b u xs q => by rw [upd_ne (hm b _ q fun z => z)]; exact q, fun b ps q => ⟨#[], by rw [upd_ne (hm b _ q fun z => z), q]; simp⟩⟩
  by_cases hbe : b = e
  · subst hbe; exact heo
  · exact ⟨u, k b u hbe q⟩
theorem Un.mono (u : Un fs ex H H1 h h1) (hs : ∀ b ∈ fs, b ∈ fs') (hx : ∀ b ∈ ex, b ∈ ex') : Un fs' ex' H H1 h h1 :=
  ⟨fun b ob q n hb he => u.keep b ob q n (fun z => hb (hs b z)) fun z => he (hx b z), fun _ _ q n _ he => u.any q n fun z => he (hx _ z), fun b ob q n he => u.free b ob q n fun z => he (hx b z), fun b ob q he => u.there b ob q fun z => he (hx b z), u.tups, u.frzs, u.tbls⟩
end
def trk (h : Heap) (H : Hp) : List Addr := (List.range h.objs.size).filter fun a => (H a).isSome
def hidT (h : Heap) (H : Hp) : Heap := PySem.W.hideAll h (trk h H)
theorem hidT_size (h : Heap) (H : Hp) : (hidT h H).objs.size = h.objs.size := PySem.W.hideAll_size _ _
theorem hidT_get {h : Heap} {H : Hp} {b : Addr} {o : Obj} (e : h.get? b = some o) (n : H b = none) : (hidT h H).get? b = some o :=
  PySem.W.hideAll_get _ e fun hm => by
    have q : (H b).isSome = true := (List.mem_filter.mp hm).2
    rw [n] at q; simp at q
theorem of_hidT {h : Heap} {H : Hp} {b : Addr} {o : Obj} (e : (hidT h H).get? b = some o) : h.get? b = some o ∧ H b = none := by
  have e' : h.get? b = some o := PySem.W.of_hideAll (trk h H) e
  refine ⟨e', ?_⟩
  cases q : H b with
  | none => rfl
  | some x =>
    have hm : b ∈ trk h H := List.mem_filter.mpr ⟨List.mem_range.mpr (Heap.lt_size e'), by simp [q]⟩
    have z : (hidT h H).get? b = none := PySem.W.hideAll_none (trk h H) hm
    rw [z] at e; cases e
def allNews (g h : Heap) (L : Addr) : List (Addr × Obj) := (List.range h.objs.size).filterMap fun a => if a = L ∨ (g.get? a).isSome = true then none else (h.get? a).map fun o => (a, o)
def rest (g h : Heap) (L d : Addr) : List (Addr × Obj) := (allNews g h L).filter fun p => decide (p.1 ≠ d)
end L2
namespace L2
open PySem PySem.Spec PyProof.Rows
structure Mod (K : PySem.W.Frag) (mg : Str → Option Value) (base : Heap) : Prop where
  kin : K.In base
  glob : base.Ns mainGlobals mg
  blt : ∃ mb, base.Ns builtinsNs mb ∧ ∀ x : Str, x ≠ "__name__" → mb x = bootBuiltins x
  nolimit : base.NoLimit
structure Cx where
  prog : Program
  w : World
  K : PySem.W.Frag
  mg : Str → Option Value
  base : Heap
  A : Around
  N : List Str
  s₀ : Shared
  H₀ : Hp
  env : Env
  outer : List Env
  stack : List Env
  ex : List Addr
  fn : Str → Bool
  calm : Bool
  pn : List (Addr × Obj)
  xe : Value → Shared → Prop
def frs (l : List Env) : List Addr := l.filterMap (·.frame)
abbrev Cx.fs (X : Cx) : List Addr := frs X.outer
def Vis (sc : Scope) (x : Str) : Prop := sc.names.lookup x = some .local ∨ sc.names.lookup x = some .cell ∨ sc.names.lookup x = some .free
def Loc (sc : Scope) (x : Str) : Prop := sc.names.lookup x = some .local ∨ sc.names.lookup x = some .cell
def Look (env : Env) (h : Heap) (m : Str → Option Value) (x : Str) (u : Value) : Prop :=
  (env.kindOf x = some .local ∧ m x = some u) ∨ ((env.kindOf x = some .cell ∨ env.kindOf x = some .free) ∧ ∃ c, env.cells.lookup x = some c ∧ h.IsCell c (some u))
structure Cx.Ok (X : Cx) : Prop where
  mod : Mod X.K X.mg X.base
  kind : X.env.scope.kind = .function
  glob : X.env.globals = mainGlobals
  blt : X.env.builtins = builtinsNs
  above : X.s₀.heap.objs.size ≤ X.env.locals
  inj : ∀ x y c, X.env.cells.lookup x = some c → X.env.cells.lookup y = some c → x = y
  has : ∀ x, (X.env.kindOf x = some .cell ∨ X.env.kindOf x = some .free) → ∃ c, X.env.cells.lookup x = some c
  cab : ∀ x c, X.fn x = true → X.env.cells.lookup x = some c → X.s₀.heap.objs.size ≤ c
  hd : X.calm = true → X.A.handled = none
  frames : X.A.frames = some X.stack
  stk : X.stack = X.outer ∨ (X.stack = X.env :: X.outer ∧ X.env.frame = some X.env.locals)
  exf : ∀ b ∈ X.ex, b ≠ X.env.locals ∧ ∀ x c, X.env.cells.lookup x = some c → c ≠ b
  bs : ∀ b o, X.base.get? b = some o → X.s₀.heap.get? b = some o ∧ X.H₀ b = none
  bsz : X.base.objs.size ≤ X.s₀.heap.objs.size
  noex : ∀ b o, X.base.get? b = some o → b ∉ X.ex
  exfs : ∀ b ∈ X.ex, b ∉ X.fs
  funs : X.s₀.heap.FunFrames X.base X.outer
  frf : ∀ b ∈ X.fs, X.H₀ b = none
structure Inv (X : Cx) (pins : List (Addr × Obj)) (σ : List (Option V)) (H : Hp) (s : Shared) : Prop where
  ok : X.Ok
  os : s.os = X.s₀.os
  bare : AllBare s.gens
  base : Un X.fs X.ex X.H₀ H X.s₀.heap s.heap
  loc : ∃ m, s.heap.Ns X.env.locals m ∧ ∀ (i : Nat) (x : Str) (v : V), X.N[i]? = some x → σ[i]? = some (some v) → Vis X.env.scope x → ∃ u, RelV v u ∧ Look X.env s.heap m x u
  cell : ∀ x c, X.env.cells.lookup x = some c → ∃ v, s.heap.IsCell c v
  free : H X.env.locals = none
  freeC : ∀ x c, X.env.cells.lookup x = some c → H c = none
  pin : ∀ p ∈ X.pn ++ pins, s.heap.get? p.1 = some p.2 ∧ H p.1 = none ∧ p.1 ≠ X.env.locals ∧ p.1 ∉ X.fs ∧ ∀ v, p.2.data ≠ .cell v
  hok : HOk X.prog X.w H s.heap
  len : σ.length = X.N.length
section
variable {X : Cx} {pins : List (Addr × Obj)} {σ : List (Option V)} {H H' : Hp} {s : Shared} {h' : Heap}
theorem Cx.Ok.nofr (ok : X.Ok) {b : Addr} {o : Obj} (e : X.base.get? b = some o) : b ∉ X.fs := fun hb => by
  have := (ok.funs.mem hb).1
  rw [e] at this; cases this
theorem Inv.bs (I : Inv X pins σ H s) : ∀ b o, X.base.get? b = some o → s.heap.get? b = some o ∧ H b = none := fun b o e =>
  ⟨I.base.keep b o (I.ok.bs b o e).1 (I.ok.bs b o e).2 (I.ok.nofr e) (I.ok.noex b o e), I.base.free b o (I.ok.bs b o e).1 (I.ok.bs b o e).2 (I.ok.noex b o e)⟩
theorem Inv.bk (I : Inv X pins σ H s) : ∀ b o, X.base.get? b = some o → s.heap.get? b = some o := fun b o e => (I.bs b o e).1
theorem Inv.mod (I : Inv X pins σ H s) : Mod X.K X.mg X.base := I.ok.mod
theorem Inv.kIn (I : Inv X pins σ H s) : X.K.In s.heap := I.ok.mod.kin.keeps I.bk
theorem Inv.nolimit (I : Inv X pins σ H s) : s.heap.NoLimit := I.ok.mod.nolimit.keeps I.bk
theorem Inv.fr (I : Inv X pins σ H s) : ∃ m, Fr X.base X.env.locals s.heap m :=
  let ⟨m, hn, _⟩ := I.loc
  ⟨m, hn, I.bk, Nat.le_trans I.ok.bsz I.ok.above⟩
theorem Inv.lt (I : Inv X pins σ H s) : X.env.locals < s.heap.objs.size := let ⟨_, hn, _⟩ := I.loc; hn.lt
theorem Inv.sz (I : Inv X pins σ H s) : X.s₀.heap.objs.size ≤ s.heap.objs.size := Nat.le_trans I.ok.above (Nat.le_of_lt I.lt)
theorem Inv.nofs (I : Inv X pins σ H s) {a : Addr} (h : s.heap.objs.size ≤ a) : a ∉ X.fs := fun hb => by
  obtain ⟨_, o, ho, _⟩ := I.ok.funs.mem hb
  exact absurd (Nat.lt_of_lt_of_le (Heap.lt_size ho) (Nat.le_trans I.sz h)) (Nat.lt_irrefl _)
theorem Inv.cne (I : Inv X pins σ H s) : ∀ x c, X.env.cells.lookup x = some c → c ≠ X.env.locals := fun x c e z => by
  obtain ⟨v, o, ho, hd⟩ := I.cell x c e
  obtain ⟨m, ⟨o', es, ep, ho', hd', _⟩, _⟩ := I.loc
  rw [z, ho'] at ho; cases ho; rw [hd'] at hd; cases hd
theorem Inv.funs (I : Inv X pins σ H s) : s.heap.FunFrames X.base X.outer := by
  have all : ∀ (l : List Env), (∀ b ∈ frs l, b ∈ X.fs) → X.s₀.heap.FunFrames X.base l → s.heap.FunFrames X.base l := by
    intro l
    induction l with
    | nil => intro _ _; trivial
    | cons env r ih =>
      intro hs hl
      obtain ⟨hk, ⟨L, o, hf, hn, ho, hd⟩, hr⟩ := hl
      have hL : L ∈ X.fs := hs L (by unfold frs; rw [List.filterMap_cons, hf]; exact List.mem_cons_self)
      obtain ⟨sl, e⟩ := I.base.slot L o ho (I.ok.frf L hL) hL fun z => I.ok.exfs L z hL
      exact ⟨hk, ⟨L, _, hf, hn, e, hd⟩, ih (fun b hb => hs b (by unfold frs; rw [List.filterMap_cons, hf]; exact List.mem_cons_of_mem _ hb)) hr⟩
  exact all X.outer (fun _ hb => hb) I.ok.funs
theorem Inv.stack (I : Inv X pins σ H s) : s.heap.FunFrames X.base X.stack := by
  rcases I.ok.stk with e | ⟨e, hf⟩
  · rw [e]; exact I.funs
  · rw [e]
    obtain ⟨m, hn, _⟩ := I.loc
    refine .cons (by rw [I.ok.kind]; decide) hf hn ?_ I.funs
    exact Heap.get?_none_of_le (Nat.le_trans I.ok.bsz I.ok.above)
theorem Inv.stkSub (I : Inv X pins σ H s) : ∀ b ∈ frs X.stack, b ∈ X.env.locals :: X.fs := fun b hb => by
  rcases I.ok.stk with e | ⟨e, hf⟩
  · rw [e] at hb; exact List.mem_cons_of_mem _ hb
  · rw [e] at hb
    unfold frs at hb
    rw [List.filterMap_cons, hf] at hb
    exact hb
theorem Inv.stkFree (I : Inv X pins σ H s) : ∀ b ∈ frs X.stack, H b = none := fun b hb => by
  rcases List.mem_cons.mp (I.stkSub b hb) with e | hb
  · rw [e]; exact I.free
  · obtain ⟨_, o, ho, _⟩ := I.ok.funs.mem hb
    exact I.base.free b o ho (I.ok.frf b hb) fun z => I.ok.exfs b z hb
theorem Inv.step {g' : Array GenState} {t' : Nat} {d' : Drawn} {ch : List Addr} (I : Inv X pins σ H s)
    (hch : ∀ b ∈ ch, (b ∈ X.ex ∨ X.s₀.heap.objs.size ≤ b) ∧ b ≠ X.env.locals ∧ (∀ x c, X.env.cells.lookup x = some c → c ≠ b) ∧ ∀ p ∈ X.pn ++ pins, p.1 ≠ b)
    (keep : ∀ b o, b ≠ X.env.locals → b ∉ X.fs → b ∉ ch → s.heap.get? b = some o → H b = none → h'.get? b = some o)
    (slot : ∀ b o, b ≠ X.env.locals → b ∈ X.fs → b ∉ ch → s.heap.get? b = some o → H b = none → ∃ sl, h'.get? b = some { o with slots := sl }) (free : ∀ b o, b ∉ ch → s.heap.get? b = some o → H b = none → H' b = none)
    (there : ∀ b o, b ∉ ch → s.heap.get? b = some o → ∃ o', h'.get? b = some o')
    (tups : ∀ b xs, H b = some (.tup xs) → H' b = some (.tup xs)) (frzs : ∀ b o u, H b = some (.frz o u) → H' b = some (.frz o u)) (tbls : ∀ b ps, H b = some (.tbl ps) → ∃ more, H' b = some (.tbl (ps ++ more)))
    (ns : ∀ m, s.heap.Ns X.env.locals m → h'.Ns X.env.locals m) (hok : HOk X.prog X.w H' h') (hg : AllBare g') :
    Inv X pins σ H' { s with heap := h', gens := g', drawn := d', toks := t' } := by
  have neL : ∀ b o, X.s₀.heap.get? b = some o → b ≠ X.env.locals := fun b o e => Nat.ne_of_lt (Nat.lt_of_lt_of_le (Heap.lt_size e) I.ok.above)
  have neC : ∀ b o, X.s₀.heap.get? b = some o → b ∉ X.ex → b ∉ ch := fun b o e hx hb => by
    rcases (hch b hb).1 with z | z
    · exact hx z
    · exact absurd (Nat.lt_of_lt_of_le (Heap.lt_size e) z) (Nat.lt_irrefl _)
  have cellK : ∀ x c, X.env.cells.lookup x = some c → ∀ v, s.heap.IsCell c v → h'.IsCell c v := fun x c e v ⟨o, ho, hd⟩ => by
    have nch : c ∉ ch := fun z => (hch c z).2.2.1 x c e rfl
    by_cases hc : c ∈ X.fs
    · obtain ⟨sl, q⟩ := slot c o (I.cne x c e) hc nch ho (I.freeC x c e)
      exact ⟨_, q, hd⟩
    · exact ⟨o, keep c o (I.cne x c e) hc nch ho (I.freeC x c e), hd⟩
  refine ⟨I.ok, I.os, hg, ⟨fun b o e n hb hx => ?_, fun b o e n hb hx => ?_, fun b o e n hx => ?_, fun b o e hx => ?_, fun b xs e => tups b xs (I.base.tups b xs e), fun b o xs e => frzs b o xs (I.base.frzs b o xs e), fun b ps e => ?_⟩, ?_, fun x c e => ?_, ?_, fun x c e => ?_, fun p hp => ?_, hok, I.len⟩
  · exact keep b o (neL b o e) hb (neC b o e hx) (I.base.keep b o e n hb hx) (I.base.free b o e n hx)
  · obtain ⟨sl, e1⟩ := I.base.slot b o e n hb hx
    obtain ⟨sl', e2⟩ := slot b _ (neL b o e) hb (neC b o e hx) e1 (I.base.free b o e n hx)
    exact ⟨sl', e2⟩
  · obtain ⟨o', e1⟩ := I.base.there b o e hx
    exact free b o' (neC b o e hx) e1 (I.base.free b o e n hx)
  · obtain ⟨o', e1⟩ := I.base.there b o e hx
    exact there b o' (neC b o e hx) e1
  · obtain ⟨m1, e1⟩ := I.base.tbls b ps e
    obtain ⟨m2, e2⟩ := tbls b _ e1
    exact ⟨m1 ++ m2, by rw [e2, Array.append_assoc]⟩
  · obtain ⟨m, hn, hl⟩ := I.loc
    refine ⟨m, ns m hn, fun i x v e1 e2 e3 => ?_⟩
    obtain ⟨u, r, l⟩ := hl i x v e1 e2 e3
    refine ⟨u, r, ?_⟩
    rcases l with l | ⟨k, c, e, z⟩
    · exact .inl l
    · exact .inr ⟨k, c, e, cellK x c e _ z⟩
  · obtain ⟨v, z⟩ := I.cell x c e
    exact ⟨v, cellK x c e v z⟩
  · obtain ⟨m, ⟨o, _, _, ho, _⟩, _⟩ := I.loc
    exact free _ o (fun z => (hch _ z).2.1 rfl) ho I.free
  · obtain ⟨v, o, ho, hd⟩ := I.cell x c e
    exact free c o (fun z => (hch c z).2.2.1 x c e rfl) ho (I.freeC x c e)
  · obtain ⟨e, n, ne, nf, d⟩ := I.pin p hp
    have nch : p.1 ∉ ch := fun z => (hch p.1 z).2.2.2 p hp rfl
    exact ⟨keep p.1 p.2 ne nf nch e n, free p.1 p.2 nch e n, ne, nf, d⟩
theorem Inv.un {t' : Nat} (I : Inv X pins σ H s) (u : Un X.fs [] H H' s.heap h') (hok : HOk X.prog X.w H' h') : Inv X pins σ H' { s with heap := h', toks := t' } := by
  obtain ⟨m, ⟨o, es, ep, ho, r⟩, _⟩ := id I.loc
  obtain ⟨sl, hL⟩ := u.any ho I.free (by simp)
  exact I.step (g' := s.gens) (d' := s.drawn) (ch := []) (fun _ z => nomatch z) (fun b o _ hb _ e n => u.keep b o e n hb (by simp)) (fun b o _ hb _ e n => u.slot b o e n hb (by simp)) (fun b o _ e n => u.free b o e n (by simp)) (fun b o _ e => u.there b o e (by simp)) u.tups u.frzs u.tbls (fun m' hm => by
    obtain ⟨o', es', ep', ho', r'⟩ := hm
    rw [ho] at ho'; cases ho'
    exact ⟨_, es', ep', hL, r'⟩) hok I.bare
theorem Inv.call {g' : Array GenState} {t' : Nat} {d' : Drawn} {ch : List Addr} (I : Inv X pins σ H s) (u : Un (frs X.stack) ch H H' s.heap h') (hok : HOk X.prog X.w H' h') (hg : AllBare g')
    (hch : ∀ b ∈ ch, (b ∈ X.ex ∨ X.s₀.heap.objs.size ≤ b) ∧ b ≠ X.env.locals ∧ (∀ x c, X.env.cells.lookup x = some c → c ≠ b) ∧ ∀ p ∈ X.pn ++ pins, p.1 ≠ b) :
    Inv X pins σ H' { s with heap := h', gens := g', drawn := d', toks := t' } := by
  obtain ⟨m, ⟨o, es, ep, ho, r⟩, _⟩ := id I.loc
  obtain ⟨sl, hL⟩ := u.any ho I.free fun z => (hch _ z).2.1 rfl
  exact I.step (ch := ch) hch (fun b o hL hb hc e n => u.keep b o e n (fun z => (List.mem_cons.mp (I.stkSub b z)).elim hL hb) hc) (fun b o _ _ hc e n => u.any e n hc) (fun b o hc e n => u.free b o e n hc) (fun b o hc e => u.there b o e hc) u.tups u.frzs u.tbls (fun m' hm => by
    obtain ⟨o', es', ep', ho', r'⟩ := hm
    rw [ho] at ho'; cases ho'
    exact ⟨_, es', ep', hL, r'⟩) hok hg
theorem Inv.turned {t' : Nat} {it : Addr} (I : Inv X pins σ H s) (k : ∀ b o, b ≠ it → s.heap.get? b = some o → h'.get? b = some o) (hn : H it = none) (hL : it ≠ X.env.locals)
    (h1 : it ∈ X.ex ∨ X.s₀.heap.objs.size ≤ it) (h2 : ∀ x c, X.env.cells.lookup x = some c → c ≠ it) (h3 : ∀ p ∈ X.pn ++ pins, p.1 ≠ it) : Inv X pins σ H { s with heap := h', toks := t' } := by
  have nit : ∀ b u, H b = some u → b ≠ it := fun b u e z => by rw [z, hn] at e; cases e
  refine I.step (g' := s.gens) (d' := s.drawn) (ch := [it]) (fun b hb => ?_) (fun b o _ _ hc e _ => k b o (fun z => hc (by simp [z])) e) (fun b o _ _ hc e _ => ⟨o.slots, k b o (fun z => hc (by simp [z])) e⟩) (fun _ _ _ _ n => n)
    (fun b o hc e => ⟨o, k b o (fun z => hc (by simp [z])) e⟩) (fun _ _ e => e) (fun _ _ _ e => e) (fun b ps e => ⟨#[], by rw [e]; simp⟩) (fun m hm => ?_) (fun b u e => ?_) I.bare
  · have e : b = it := by simpa using hb
    subst e
    exact ⟨h1, hL, h2, h3⟩
  · obtain ⟨o, es, ep, ho, r⟩ := hm
    exact ⟨o, es, ep, k _ o (Ne.symm hL) ho, r⟩
  · refine (I.hok b u e).stay (fun c v hc q => k c v ?_ q) (fun _ q => q) fun _ _ q => q
    rcases hc with z | z
    · rw [z]; exact nit b u e
    · exact nit c _ z
theorem Inv.tok (I : Inv X pins σ H s) (t : Nat) : Inv X pins σ H { s with toks := t } := I.un (h' := s.heap) (t' := t) Un.refl I.hok
theorem Inv.kept {t' : Nat} (I : Inv X pins σ H s) (k : ∀ b u, s.heap.get? b = some u → h'.get? b = some u) : Inv X pins σ H { s with heap := h', toks := t' } := I.un (Un.kept k) (I.hok.kept k)
theorem Inv.laid {a : Addr} {o : HO} {t' : Nat} (I : Inv X pins σ H s) (k : ∀ b u, s.heap.get? b = some u → h'.get? b = some u) (hp : s.heap.objs.size ≤ a) (new : ObjOk X.prog X.w (upd H a o) h' a o) :
    Inv X pins σ (upd H a o) { s with heap := h', toks := t' } := I.un (Un.laid k hp (I.hok.fresh hp)) (I.hok.laid k hp new)
theorem Inv.write {x e : Addr} {o : HO} {t' : Nat} (I : Inv X pins σ H s) (mu : Mut (H x)) (he : e = x ∨ H e = some (.own x)) (k : ∀ b u, b ≠ e → s.heap.get? b = some u → h'.get? b = some u) (heo : ∃ u, h'.get? e = some u)
    (new : ObjOk X.prog X.w (upd H x o) h' x o) : Inv X pins σ (upd H x o) { s with heap := h', toks := t' } := I.un (Un.write mu he k heo) (I.hok.write mu he k heo new)
theorem Inv.pins_of {pins' : List (Addr × Obj)} (I : Inv X pins σ H s) (h : ∀ p ∈ pins', s.heap.get? p.1 = some p.2 ∧ H p.1 = none ∧ p.1 ≠ X.env.locals ∧ p.1 ∉ X.fs ∧ ∀ v, p.2.data ≠ .cell v) : Inv X pins' σ H s :=
  ⟨I.ok, I.os, I.bare, I.base, I.loc, I.cell, I.free, I.freeC, fun p hp => (List.mem_append.mp hp).elim (fun z => I.pin p (List.mem_append_left _ z)) (h p), I.hok, I.len⟩
theorem nodup_ix {N : List Str} (hN : N.Nodup) {i j : Nat} {x : Str} (a : N[i]? = some x) (b : N[j]? = some x) : i = j := by
  obtain ⟨h1, e1⟩ := List.getElem?_eq_some_iff.mp a
  obtain ⟨h2, e2⟩ := List.getElem?_eq_some_iff.mp b
  exact (List.getElem_inj hN).mp (e1.trans e2.symm)
theorem store_ok2 {M : Model} {A : Around} {E : Value → Shared → Prop} {i : Nat} {x : Str} {v : V} {u : Value} {Q : Unit → Shared → Prop} (I : Inv X pins σ H s) (hN : X.N.Nodup) (hi : X.N[i]? = some x) (hx : Loc X.env.scope x) (r : RelV v u)
    (h : ∀ s', Inv X pins (σ.set i (some v)) H s' → (∃ a, Heap.SameBut a s.heap s'.heap ∧ (a = X.env.locals ∨ X.env.cells.lookup x = some a)) → Q () s') (hf : X.fn x = true ∨ X.env.scope.names.lookup x = some .local := by first | exact .inl rfl | exact .inr rfl | assumption) : wpAny M A (storeName X.env x u) Q E s := by
  obtain ⟨m, hn, hl⟩ := id I.loc
  have hcls : (X.env.scope.kind == .class || (X.env.scope.kind == .module && X.env.locals != X.env.globals)) = false := by rw [I.ok.kind]; rfl
  have hiσ : i < σ.length := by rw [I.len]; exact (List.getElem?_eq_some_iff.mp hi).1
  have cne := I.cne
  have tracked : ∀ {a : Addr} {h' : Heap}, (∃ o, s.heap.get? a = some o ∧ H a = none) → Heap.SameBut a s.heap h' → HOk X.prog X.w H h' := fun {a h'} ha hs b ob e => by
    obtain ⟨_, _, hfree⟩ := ha
    refine (I.hok b ob e).stay (fun c w' hc q => (hs.2 c ?_).trans q) (fun _ q => q) fun _ _ q => q
    rintro rfl
    rcases hc with rfl | hc
    · rw [hfree] at e; cases e
    · rw [hfree] at hc; cases hc
  rcases hx with hk | hk
  · refine wpAny_storeName_local hk hn (fun h' hn' hs => ?_) hcls
    obtain ⟨oL, _, _, hoL, _⟩ := id hn
    refine h _ ⟨I.ok, I.os, I.bare, ⟨fun b o e n hb hx => ?_, fun b o e n hb hx => ?_, I.base.free, fun b o e hx => ?_, I.base.tups, I.base.frzs, I.base.tbls⟩, ⟨_, hn', fun j y v' e1 e2 e3 => ?_⟩, fun y c e => ?_, I.free, I.freeC, fun p hp => ?_, tracked ⟨oL, hoL, I.free⟩ hs, by simpa using I.len⟩ ⟨_, hs, .inl rfl⟩
    · exact (hs.2 b (Nat.ne_of_lt (Nat.lt_of_lt_of_le (Heap.lt_size e) I.ok.above))).trans (I.base.keep b o e n hb hx)
    · obtain ⟨sl, e1⟩ := I.base.slot b o e n hb hx
      exact ⟨sl, (hs.2 b (Nat.ne_of_lt (Nat.lt_of_lt_of_le (Heap.lt_size e) I.ok.above))).trans e1⟩
    · obtain ⟨o', e1⟩ := I.base.there b o e hx
      exact ⟨o', (hs.2 b (Nat.ne_of_lt (Nat.lt_of_lt_of_le (Heap.lt_size e) I.ok.above))).trans e1⟩
    · by_cases hj : j = i
      · subst hj
        rw [hi] at e1; cases e1
        rw [List.getElem?_set_self hiσ] at e2
        cases e2
        exact ⟨u, r, .inl ⟨hk, by simp⟩⟩
      · rw [List.getElem?_set_ne (Ne.symm hj)] at e2
        obtain ⟨u', r', q⟩ := hl j y v' e1 e2 e3
        refine ⟨u', r', ?_⟩
        rcases q with ⟨k, e⟩ | ⟨k, c, e, z⟩
        · refine .inl ⟨k, ?_⟩
          have : y ≠ x := fun e => hj (nodup_ix hN e1 (e ▸ hi))
          simp [this, e]
        · exact .inr ⟨k, c, e, z.sameBut hs (cne y c e)⟩
    · obtain ⟨w', z⟩ := I.cell y c e
      exact ⟨w', z.sameBut hs (cne y c e)⟩
    · obtain ⟨e, n, ne, nf, d⟩ := I.pin p hp
      exact ⟨(hs.2 p.1 ne).trans e, n, ne, nf, d⟩
  · have hfn : X.fn x = true := by
      rcases hf with z | z
      · exact z
      · rw [z] at hk; cases hk
    obtain ⟨c, hc⟩ := I.ok.has x (.inl hk)
    obtain ⟨w', z⟩ := I.cell x c hc
    refine wpAny_storeName_cell I.ok.kind hk hc z (fun h' hc' hs => ?_)
    obtain ⟨oc, hoc, hocd⟩ := id z
    refine h { s with heap := h' } ⟨I.ok, I.os, I.bare, ⟨fun b o e n hb hx => ?_, fun b o e n hb hx => ?_, I.base.free, fun b o e hx => ?_, I.base.tups, I.base.frzs, I.base.tbls⟩, ⟨m, hn.sameBut hs (Ne.symm (cne x c hc)), fun j y v' e1 e2 e3 => ?_⟩, fun y c' e => ?_, I.free, I.freeC, fun p hp => ?_, tracked ⟨oc, hoc, I.freeC x c hc⟩ hs, by simpa using I.len⟩ ⟨c, hs, .inr hc⟩
    · exact (hs.2 b (Nat.ne_of_lt (Nat.lt_of_lt_of_le (Heap.lt_size e) (I.ok.cab x c hfn hc)))).trans (I.base.keep b o e n hb hx)
    · obtain ⟨sl, e1⟩ := I.base.slot b o e n hb hx
      exact ⟨sl, (hs.2 b (Nat.ne_of_lt (Nat.lt_of_lt_of_le (Heap.lt_size e) (I.ok.cab x c hfn hc)))).trans e1⟩
    · obtain ⟨o', e1⟩ := I.base.there b o e hx
      exact ⟨o', (hs.2 b (Nat.ne_of_lt (Nat.lt_of_lt_of_le (Heap.lt_size e) (I.ok.cab x c hfn hc)))).trans e1⟩
    · by_cases hj : j = i
      · subst hj
        rw [hi] at e1; cases e1
        rw [List.getElem?_set_self hiσ] at e2
        cases e2
        exact ⟨u, r, .inr ⟨.inl hk, c, hc, hc'⟩⟩
      · rw [List.getElem?_set_ne (Ne.symm hj)] at e2
        obtain ⟨u', r', q⟩ := hl j y v' e1 e2 e3
        refine ⟨u', r', ?_⟩
        rcases q with q | ⟨k, c', e, z'⟩
        · exact .inl q
        · refine .inr ⟨k, c', e, z'.sameBut hs ?_⟩
          rintro rfl
          exact hj (nodup_ix hN e1 (I.ok.inj _ _ _ e hc ▸ hi))
    · by_cases hcc : c' = c
      · subst hcc; exact ⟨_, hc'⟩
      · obtain ⟨w2, z2⟩ := I.cell y c' e
        exact ⟨w2, z2.sameBut hs hcc⟩
    · obtain ⟨e, n, ne, nf, d⟩ := I.pin p hp
      refine ⟨(hs.2 p.1 ?_).trans e, n, ne, nf, d⟩
      intro q
      rw [q, hoc] at e
      have q' : oc = p.2 := Option.some.inj e
      exact d w' (by rw [← q']; exact hocd)
theorem store_ok {M : Model} {A : Around} {E : Value → Shared → Prop} {i : Nat} {x : Str} {v : V} {u : Value} {Q : Unit → Shared → Prop} (I : Inv X pins σ H s) (hN : X.N.Nodup) (hi : X.N[i]? = some x) (hx : Loc X.env.scope x) (r : RelV v u)
    (h : ∀ s', Inv X pins (σ.set i (some v)) H s' → Q () s') (hf : X.fn x = true ∨ X.env.scope.names.lookup x = some .local := by first | exact .inl rfl | exact .inr rfl | assumption) : wpAny M A (storeName X.env x u) Q E s :=
  store_ok2 I hN hi hx r (fun s' I' _ => h s' I') hf
theorem Inv.call' {s' : Shared} {ch : List Addr} (I : Inv X pins σ H s) (ho : s'.os = s.os) (u : Un (frs X.stack) ch H H' s.heap s'.heap) (hok : HOk X.prog X.w H' s'.heap) (hg : AllBare s'.gens)
    (hch : ∀ b ∈ ch, (b ∈ X.ex ∨ X.s₀.heap.objs.size ≤ b) ∧ b ≠ X.env.locals ∧ (∀ x c, X.env.cells.lookup x = some c → c ≠ b) ∧ ∀ p ∈ X.pn ++ pins, p.1 ≠ b) : Inv X pins σ H' s' := by
  obtain ⟨h', g', d', t', o'⟩ := s'
  have e : o' = s.os := ho
  subst e
  exact I.call (g' := g') (t' := t') (d' := d') u hok hg hch
end
abbrev XK := Value → Option Addr → Hp → Prop
abbrev St := List (Option V)
abbrev VK := V → Hp → Prop
abbrev TE := St → Hp → VK → Prop
abbrev TT := St → Hp → (Bool → Hp → Prop) → Prop
abbrev TA := St → Hp → (List V → Hp → Prop) → Prop
structure Ends where
  nx : St → Hp → Prop
  rt : VK
  bk : St → Hp → Prop := fun _ _ => False
  ct : St → Hp → Prop := fun _ _ => False
abbrev TS := Ends → St → Hp → Prop
def EP (X : Cx) (pins : List (Addr × Obj)) (σ : St) (Q : VK) (u : Value) (s' : Shared) : Prop := ∃ v H', Inv X pins σ H' s' ∧ RelV v u ∧ Q v H'
def TP (X : Cx) (pins : List (Addr × Obj)) (σ : St) (Q : Bool → Hp → Prop) (b : Bool) (s' : Shared) : Prop := ∃ H', Inv X pins σ H' s' ∧ Q b H'
def AP (X : Cx) (pins : List (Addr × Obj)) (σ : St) (Q : List V → Hp → Prop) (us : List Value) (s' : Shared) : Prop := ∃ vs H', Inv X pins σ H' s' ∧ Vals vs us ∧ Q vs H'
def SP (X : Cx) (pins : List (Addr × Obj)) (D : Ends) (f : Flow) (s' : Shared) : Prop :=
  match f with
  | .next => ∃ σ' H', Inv X pins σ' H' s' ∧ D.nx σ' H'
  | .brk => ∃ σ' H', Inv X pins σ' H' s' ∧ D.bk σ' H'
  | .cont => ∃ σ' H', Inv X pins σ' H' s' ∧ D.ct σ' H'
  | .ret u => ∃ v σ' H', Inv X pins σ' H' s' ∧ RelV v u ∧ D.rt v H'
def PE (X : Cx) (e : Expr) (t : TE) : Prop :=
  ∀ (pins : List (Addr × Obj)) (s : Shared) (σ : St) (H : Hp) (Q : VK), Inv X pins σ H s → t σ H Q → wpAny (model X.prog X.w) X.A (eval e X.env) (EP X pins σ Q) X.xe s
def PT (X : Cx) (e : Expr) (t : TT) : Prop :=
  ∀ (pins : List (Addr × Obj)) (s : Shared) (σ : St) (H : Hp) (Q : Bool → Hp → Prop), Inv X pins σ H s → t σ H Q → wpAny (model X.prog X.w) X.A (isTrue e X.env (eval e X.env)) (TP X pins σ Q) X.xe s
def PW (X : Cx) (e : Expr) (t : TT) : Prop :=
  ∀ (whole : Sem Value) (pins : List (Addr × Obj)) (s : Shared) (σ : St) (H : Hp) (Q : Bool → Hp → Prop), Inv X pins σ H s → t σ H Q → wpAny (model X.prog X.w) X.A (isTrue e X.env whole) (TP X pins σ Q) X.xe s
theorem PW.pt {X : Cx} {e : Expr} {t : TT} (h : PW X e t) : PT X e t := h _
def PA (X : Cx) (es : List Expr) (t : TA) : Prop :=
  ∀ (pos : Pos) (pins : List (Addr × Obj)) (s : Shared) (σ : St) (H : Hp) (Q : List V → Hp → Prop), Inv X pins σ H s → t σ H Q → wpAny (model X.prog X.w) X.A (spliced (backTo pos (starEach es X.env))) (AP X pins σ Q) X.xe s
def PS (X : Cx) (st : Stmt) (t : TS) : Prop :=
  ∀ (pins : List (Addr × Obj)) (s : Shared) (σ : St) (H : Hp) (D : Ends), Inv X pins σ H s → t D σ H → wpAny (model X.prog X.w) X.A (exec st X.env) (SP X pins D) X.xe s
def PSs (X : Cx) (st : List Stmt) (t : TS) : Prop :=
  ∀ (pins : List (Addr × Obj)) (s : Shared) (σ : St) (H : Hp) (D : Ends), Inv X pins σ H s → t D σ H → wpAny (model X.prog X.w) X.A (execs st X.env) (SP X pins D) X.xe s
theorem thn {α : Type} {t : Sem α} {Q Q' : α → Shared → Prop} {M : Model} {A : Around} {E : Value → Shared → Prop} {s : Shared} (h : wpAny M A t Q E s) (hQ : ∀ a s, Q a s → Q' a s) : wpAny M A t Q' E s := wpAny_mono h hQ fun _ _ x => x
end L2
namespace L2
open PySem PySem.Spec PyProof.Rows
section
variable {X : Cx}
def tVar (i : Nat) : TE := fun σ H Q => ∃ v, σ[i]? = some (some v) ∧ Q v H
def tC (v : V) : TE := fun _ H Q => Q v H
theorem pe_var {i : Nat} {x : Str} {pos : Pos} (hN : X.N[i]? = some x) (hv : Vis X.env.scope x) (hd : (x == ("__debug__" : Str)) = false := by decide) (hcd : (x == ("__classdict__" : Str)) = false := by decide) : PE X (.Name x pos) (tVar i) := by
  intro pins s σ H Q I h
  obtain ⟨v, e, h⟩ := h
  obtain ⟨m, hn, hl⟩ := I.loc
  obtain ⟨u, r, l⟩ := hl i x v hN e hv
  have fin : EP X pins σ Q u s := ⟨v, H, I, r, h⟩
  rcases l with ⟨hk, hm⟩ | ⟨hk, c, hc, hcell⟩
  · exact wpAny_Name (wpAny_loadName_local I.ok.kind hk hn hm fin) hd
  · rcases hk with hk | hk
    · exact wpAny_Name (wpAny_loadName_cell I.ok.kind hk hc hcell fin) hd
    · exact wpAny_Name (wpAny_loadName_free I.ok.kind hk hc hcell fin hcd) hd
theorem pe_int {i j pos} : PE X (.Constant (.int i) j pos) (tC (.int i)) := fun _ _ _ H _ I h => wpAny_Constant_int ⟨.int i, H, I.tok _, ⟨_, rfl⟩, h⟩
theorem pe_bl {b j pos} : PE X (.Constant (.bool b) j pos) (tC (.bl b)) := fun _ _ _ H _ I h => Constant_bool ⟨.bl b, H, I, rfl, h⟩
theorem pe_non {j pos} : PE X (.Constant .none j pos) (tC .non) := fun _ _ _ H _ I h => Constant_none ⟨.non, H, I, rfl, h⟩
def Gl (X : Cx) (x : Str) : Prop := X.env.kindOf x = some .globalImplicit
theorem ld_glob {E : Value → Shared → Prop} {pins : List (Addr × Obj)} {s : Shared} {σ : St} {H : Hp} {x : Str} {u : Value} {pos : Pos} {Q : Value → Shared → Prop} (I : Inv X pins σ H s) (hg : Gl X x) (hm : X.mg x = some u) (h : Q u s)
    (hd : (x == ("__debug__" : Str)) = false := by decide) : wpAny (model X.prog X.w) X.A (eval (.Name x pos) X.env) Q E s :=
  Calls.Name_function_global I.ok.kind hg (Calls.loadGlobal_global (by rw [I.ok.glob]; exact I.mod.glob.keeps I.bk) hm h) hd
theorem ld_blt {E : Value → Shared → Prop} {pins : List (Addr × Obj)} {s : Shared} {σ : St} {H : Hp} {x : Str} {u : Value} {pos : Pos} {Q : Value → Shared → Prop} (I : Inv X pins σ H s) (hg : Gl X x) (hm : X.mg x = none) (hv : bootBuiltins x = some u) (h : Q u s)
    (hn : x ≠ "__name__" := by decide) (hd : (x == ("__debug__" : Str)) = false := by decide) : wpAny (model X.prog X.w) X.A (eval (.Name x pos) X.env) Q E s := by
  obtain ⟨mb, h1, h2⟩ := I.mod.blt
  exact Calls.Name_function_global I.ok.kind hg (Calls.loadGlobal_builtin (by rw [I.ok.glob]; exact I.mod.glob.keeps I.bk) hm (by rw [I.ok.blt]; exact h1.keeps I.bk) ((h2 x hn).trans hv) h) hd
theorem pe_bltn {x : Str} {v : V} {u : Value} {pos : Pos} (hg : Gl X x) (hm : X.mg x = none) (hv : bootBuiltins x = some u) (r : RelV v u) (hn : x ≠ "__name__" := by decide) (hd : (x == ("__debug__" : Str)) = false := by decide) : PE X (.Name x pos) (tC v) :=
  fun _ _ _ H _ I h => ld_blt I hg hm hv ⟨v, H, I, r, h⟩ hn hd
variable {a b : Expr} {ta tb : TE} {pos : Pos}
def PC (X : Cx) (op : CmpOp) (a b : Expr) (t : TE) : Prop :=
  ∀ (pins : List (Addr × Obj)) (s : Shared) (σ : St) (H : Hp) (Q : VK), Inv X pins σ H s → t σ H Q →
    wpAny (model X.prog X.w) X.A (eval a X.env) (fun v s₁ => wpAny (model X.prog X.w) X.A (eval b X.env) (fun u s₂ => wpAny (model X.prog X.w) X.A (compareOp op v u) (EP X pins σ Q) X.xe s₂) X.xe s₁) X.xe s
theorem nobehind (b : Expr) {op : CmpOp} (h : op ≠ .In) (h2 : op ≠ .NotIn) : behindInMarks op b = false := by
  have e1 : (op == CmpOp.In) = false := by cases op <;> first | rfl | exact absurd rfl h
  have e2 : (op == CmpOp.NotIn) = false := by cases op <;> first | rfl | exact absurd rfl h2
  cases b <;> simp [behindInMarks, e1, e2]
def tIsN (ta : TE) : TE := fun σ H Q => ta σ H fun x H1 => Q (.bl (decide (x = .non))) H1
theorem RelV.none_iff {x : V} {v : Value} (r : RelV x v) : (v == Value.none) = decide (x = .non) := by
  cases x with
  | non => cases r; rfl
  | bl _ => cases r; rfl
  | int _ => obtain ⟨t, rfl⟩ := r; rfl
  | str _ => obtain ⟨t, rfl⟩ := r; rfl
  | byt _ => obtain ⟨t, rfl⟩ := r; rfl
  | flt _ => obtain ⟨t, rfl⟩ := r; rfl
  | ref _ => cases r; rfl
  | ty _ => cases r; rfl
theorem pc_isN {j pos'} (ha : PE X a ta) : PC X .Is a (.Constant .none j pos') (tIsN ta) := by
  intro pins s σ H Q I h
  refine thn (ha pins s σ H _ I h) fun v s1 ⟨x, H1, I1, r1, q1⟩ => ?_
  exact Constant_none (is_none_gen ⟨.bl _, H1, I1, by rw [r1.none_iff]; rfl, q1⟩)
def tB (t : TE) : TT := fun σ H Q => t σ H fun x H1 => ∃ c, x = .bl c ∧ Q c H1
theorem pe_cmp {op : CmpOp} {t : TE} (h : PC X op a b t) (h1 : behindInMarks op b = false := by first | exact nobehind _ (by decide) (by decide) | rfl) : PE X (.Compare a [op] [b] pos) t := fun pins s σ H Q I hw => wpAny_Compare1 (h pins s σ H Q I hw) h1
theorem pt_cmp {op : CmpOp} {t : TE} (h : PC X op a b t) (h1 : behindInMarks op b = false := by first | exact nobehind _ (by decide) (by decide) | rfl) : PT X (.Compare a [op] [b] pos) (tB t) := by
  intro pins s σ H Q I hw
  refine wpAny_isTrue_Compare1 (thn (h pins s σ H _ I hw) fun v s1 h1 => thn h1 fun u s2 h2 => thn h2 fun c s3 ⟨x, H1, I1, r1, q1⟩ => ?_) h1
  obtain ⟨d, rfl, q⟩ := q1
  cases r1
  exact wpAny_truthy_bool ⟨H1, I1, q⟩
theorem pt_val {e : Expr} {t : TE} (h : PE X e t) (he : ∀ whole, isTrue e X.env whole = (do let v ← whole; standAt e.pos; holding [v] (truthy v)) := by intro _; rfl) : PT X e (tB t) := by
  intro pins s σ H Q I hw
  refine isTrue_plain (thn (h pins s σ H _ I hw) fun v s1 ⟨x, H1, I1, r1, q1⟩ => ?_) (he _)
  obtain ⟨d, rfl, q⟩ := q1
  cases r1
  exact wpAny_truthy_bool ⟨H1, I1, q⟩
variable {tA tB' : TT} {rest : List Expr}
def tAnd (t u : TT) : TT := fun σ H Q => t σ H fun c H1 => if c = true then u σ H1 Q else Q false H1
def tOr (t u : TT) : TT := fun σ H Q => t σ H fun c H1 => if c = true then Q true H1 else u σ H1 Q
def tNot (t : TT) : TT := fun σ H Q => t σ H fun c H1 => Q (!c) H1
theorem pw_and1 (ha : PT X a tA) : PW X (.BoolOp .And [a] pos) tA := by
  intro wh pins s σ H Q I h
  refine isTrue_and (thn (ha pins s σ H Q I h) fun c s1 e => ?_)
  cases c with
  | true => exact isTrue_and_nil e
  | false => exact e
theorem pw_or1 (ha : PT X a tA) : PW X (.BoolOp .Or [a] pos) tA := by
  intro wh pins s σ H Q I h
  refine isTrue_or (thn (ha pins s σ H Q I h) fun c s1 e => ?_)
  cases c with
  | false => exact isTrue_or_nil e
  | true => exact e
theorem pw_and (ha : PT X a tA) (hb : PW X (.BoolOp .And (b :: rest) pos) tB') : PW X (.BoolOp .And (a :: b :: rest) pos) (tAnd tA tB') := by
  intro wh pins s σ H Q I h
  refine isTrue_and (thn (ha pins s σ H _ I h) fun c s1 ⟨H1, I1, q1⟩ => ?_)
  cases c with
  | true => exact hb wh pins s1 σ H1 Q I1 q1
  | false => exact ⟨H1, I1, q1⟩
theorem pw_or (ha : PT X a tA) (hb : PW X (.BoolOp .Or (b :: rest) pos) tB') : PW X (.BoolOp .Or (a :: b :: rest) pos) (tOr tA tB') := by
  intro wh pins s σ H Q I h
  refine isTrue_or (thn (ha pins s σ H _ I h) fun c s1 ⟨H1, I1, q1⟩ => ?_)
  cases c with
  | true => exact ⟨H1, I1, q1⟩
  | false => exact hb wh pins s1 σ H1 Q I1 q1
theorem pt_not (ha : PT X a tA) : PT X (.UnaryOp .Not a pos) (tNot tA) := by
  intro pins s σ H Q I h
  exact isTrue_not (ha pins s σ H (fun c H1 => Q (!c) H1) I h)
def tAndV (ta tb : TE) : TE := fun σ H Q => ta σ H fun x H1 => ∃ c, x = .bl c ∧ if c = true then tb σ H1 Q else Q (.bl false) H1
def tNotV (ta : TE) : TE := fun σ H Q => ta σ H fun x H1 => ∃ c, x = .bl c ∧ Q (.bl (!c)) H1
theorem pe_one {op} {t : TE} (h : PE X a t) : PE X (.BoolOp op [a] pos) t := fun pins s σ H Q I hw => BoolOp_one (h pins s σ H Q I hw)
theorem pe_and (ha : PE X a ta) (hb : PE X (.BoolOp .And (b :: rest) pos) tb) : PE X (.BoolOp .And (a :: b :: rest) pos) (tAndV ta tb) := by
  intro pins s σ H Q I h
  refine BoolOp_and (thn (ha pins s σ H _ I h) fun v s1 ⟨x, H1, I1, r1, q1⟩ => ?_)
  obtain ⟨c, rfl, q1⟩ := q1
  cases r1
  refine wpAny_truthy_bool ?_
  cases c with
  | true => exact hb pins s1 σ H1 Q I1 q1
  | false => exact ⟨.bl false, H1, I1, rfl, q1⟩
theorem pe_not (ha : PE X a ta) : PE X (.UnaryOp .Not a pos) (tNotV ta) := by
  intro pins s σ H Q I h
  refine UnaryOp_ (thn (ha pins s σ H _ I h) fun v s1 ⟨x, H1, I1, r1, q1⟩ => ?_)
  obtain ⟨c, rfl, q1⟩ := q1
  cases r1
  exact not_of (wpAny_truthy_bool ⟨.bl (!c), H1, I1, rfl, q1⟩)
end
end L2
namespace L2
open PySem PySem.Spec PyProof.Rows
def SqL (K : PySem.W.Frag) (H : Hp) (a : Addr) (xs : List V) : Prop :=
  Rd H a (.lst xs) ∨
    ∃ (o : Obj) (its : Array Value) (n : Nat), K.lookup a = some o ∧ o.cls = .type "list" ∧ o.dict = none ∧ o.data = .seq its n ∧ its.size ≤ sizeLine ∧ Vals xs its.toList
def SqT (K : PySem.W.Frag) (H : Hp) (a : Addr) (xs : List V) : Prop :=
  Rd H a (.tup xs) ∨
    ∃ (o : Obj) (its : Array Value) (n : Nat), K.lookup a = some o ∧ o.cls = .type "tuple" ∧ o.data = .seq its n ∧ o.dict = none ∧ its.size ≤ sizeLine ∧ Vals xs its.toList
def absV : Value → Option V
  | .none => some .non
  | .bool b => some (.bl b)
  | .int i _ => some (.int i)
  | .str x _ => some (.str x)
  | .bytes b _ => some (.byt b)
  | .float b _ => some (.flt b)
  | .ref a => some (.ref a)
  | .type n => some (.ty n)
  | _ => none
theorem RelV.abs {x : V} {u : Value} (r : RelV x u) : absV u = some x := by
  cases x with
  | non => cases r; rfl
  | bl _ => cases r; rfl
  | int _ => obtain ⟨t, rfl⟩ := r; rfl
  | str _ => obtain ⟨t, rfl⟩ := r; rfl
  | byt _ => obtain ⟨t, rfl⟩ := r; rfl
  | flt _ => obtain ⟨t, rfl⟩ := r; rfl
  | ref _ => cases r; rfl
  | ty _ => cases r; rfl
theorem RelV.inj {x y : V} {u : Value} (r : RelV x u) (q : RelV y u) : x = y := Option.some.inj (r.abs.symm.trans q.abs)
theorem Vals.inj : ∀ {xs ys : List V} {us : List Value}, Vals xs us → Vals ys us → xs = ys
  | _, _, _, .nil, .nil => rfl
  | _, _, _, .cons r t, .cons r' t' => by rw [r.inj r', Vals.inj t t']
section
variable {X : Cx} {pins : List (Addr × Obj)} {σ : St} {H : Hp} {s : Shared} {a : Addr} {xs ys : List V}
theorem SqL.of {K : PySem.W.Frag} (h : H a = some (.lst xs)) : SqL K H a xs := .inl (.inl h)
theorem SqT.of {K : PySem.W.Frag} (h : H a = some (.tup xs)) : SqT K H a xs := .inl (.inl h)
theorem Inv.list (I : Inv X pins σ H s) (h : SqL X.K H a xs) : ∃ its : List Value, Vals xs its ∧ PlainL s.heap a its.toArray ∧ xs.length ≤ sizeLine := by
  rcases h with h | ⟨o, its, n, hk, hc, hd, hs, hz, r⟩
  · obtain ⟨z, its, n, r, e⟩ := h.ok I.hok
    exact ⟨its, r, ⟨_, n, e, rfl, rfl, rfl⟩, z⟩
  · refine ⟨its.toList, r, ⟨o, n, I.kIn a o hk, hc, hd, by simpa using hs⟩, ?_⟩
    have e := r.length
    simp only [Array.length_toList] at e
    omega
theorem Inv.tuple (I : Inv X pins σ H s) (h : SqT X.K H a xs) : ∃ its : List Value, Vals xs its ∧ IsTup s.heap a its.toArray ∧ xs.length ≤ sizeLine := by
  rcases h with h | ⟨o, its, n, hk, hc, hs, hd0, hz, r⟩
  · obtain ⟨z, ⟨its, r, p⟩, _⟩ := h.ok I.hok
    exact ⟨its, r, p, z⟩
  · refine ⟨its.toList, r, ⟨o, I.kIn a o hk, hc, n, by simpa using hs⟩, ?_⟩
    have e := r.length
    simp only [Array.length_toList] at e
    omega
theorem Inv.list_inj (I : Inv X pins σ H s) (h : SqL X.K H a xs) (h' : SqL X.K H a ys) : xs = ys := by
  obtain ⟨its, r, ⟨o, n, e, _, _, d⟩, _⟩ := I.list h
  obtain ⟨its', r', ⟨o', n', e', _, _, d'⟩, _⟩ := I.list h'
  rw [e] at e'; cases e'
  rw [d] at d'
  injection d' with d1 _
  have : its = its' := by simpa using congrArg Array.toList d1
  subst this
  exact r.inj r'
end
abbrev Cx.wish (X : Cx) (E : Value → Shared → Prop) : Cx := { X with xe := E }
abbrev Cx.nox (X : Cx) : Cx := X.wish fun _ _ => False
theorem Cx.Ok.wish {X : Cx} (ok : X.Ok) (E : Value → Shared → Prop) : (X.wish E).Ok :=
  ⟨ok.mod, ok.kind, ok.glob, ok.blt, ok.above, ok.inj, ok.has, ok.cab, ok.hd, ok.frames, ok.stk, ok.exf, ok.bs, ok.bsz, ok.noex, ok.exfs, ok.funs, ok.frf⟩
theorem Cx.Ok.unwish {X : Cx} {E : Value → Shared → Prop} (ok : (X.wish E).Ok) : X.Ok :=
  ⟨ok.mod, ok.kind, ok.glob, ok.blt, ok.above, ok.inj, ok.has, ok.cab, ok.hd, ok.frames, ok.stk, ok.exf, ok.bs, ok.bsz, ok.noex, ok.exfs, ok.funs, ok.frf⟩
section
variable {X : Cx} {pins : List (Addr × Obj)} {σ : St} {H : Hp} {s : Shared} {E : Value → Shared → Prop}
theorem Inv.wish (I : Inv X pins σ H s) (E : Value → Shared → Prop) : Inv (X.wish E) pins σ H s := ⟨I.ok.wish E, I.os, I.bare, I.base, I.loc, I.cell, I.free, I.freeC, I.pin, I.hok, I.len⟩
theorem Inv.unwish (I : Inv (X.wish E) pins σ H s) : Inv X pins σ H s := ⟨I.ok.unwish, I.os, I.bare, I.base, I.loc, I.cell, I.free, I.freeC, I.pin, I.hok, I.len⟩
theorem SP.unwish {D : Ends} {f : Flow} {s' : Shared} (h : SP (X.wish E) pins D f s') : SP X pins D f s' := by
  cases f with
  | next => obtain ⟨σ', H', I, q⟩ := h; exact ⟨σ', H', I.unwish, q⟩
  | brk => obtain ⟨σ', H', I, q⟩ := h; exact ⟨σ', H', I.unwish, q⟩
  | cont => obtain ⟨σ', H', I, q⟩ := h; exact ⟨σ', H', I.unwish, q⟩
  | ret u => obtain ⟨v, σ', H', I, r, q⟩ := h; exact ⟨v, σ', H', I.unwish, r, q⟩
theorem PE.nox {e : Expr} {t : TE} (h : PE X.nox e t) : PE X e t := fun pins s σ H Q I hw =>
  wpAny_mono (h pins s σ H Q (I.wish _) hw) (fun _ _ ⟨v, H', I', r, q⟩ => ⟨v, H', I'.unwish, r, q⟩) fun _ _ z => False.elim z
theorem PT.nox {e : Expr} {t : TT} (h : PT X.nox e t) : PT X e t := fun pins s σ H Q I hw =>
  wpAny_mono (h pins s σ H Q (I.wish _) hw) (fun _ _ ⟨H', I', q⟩ => ⟨H', I'.unwish, q⟩) fun _ _ z => False.elim z
theorem PSs.nox {st : List Stmt} {t : TS} (h : PSs X.nox st t) : PSs X st t := fun pins s σ H D I hw =>
  wpAny_mono (h pins s σ H D (I.wish _) hw) (fun _ _ q => q.unwish) fun _ _ z => False.elim z
end
section
variable {X : Cx} {st : Stmt} {rest : List Stmt} {t u : TS} {e : Expr} {te : TE} {pos : Pos}
def tNext : TS := fun D σ H => D.nx σ H
def tSeq (t u : TS) : TS := fun D σ H => t { D with nx := u D } σ H
theorem pss_nil : PSs X [] tNext := fun _ _ σ H _ I h => wpAny_execs_nil ⟨σ, H, I, h⟩
theorem pss_cons (h1 : PS X st t) (h2 : PSs X rest u) : PSs X (st :: rest) (tSeq t u) := by
  intro pins s σ H D I h
  refine wpAny_execs_cons (thn (h1 pins s σ H { D with nx := u D } I h) fun f s1 q => ?_)
  cases f with
  | next =>
    obtain ⟨σ', H', I', q⟩ := q
    exact h2 pins s1 σ' H' D I' q
  | ret v => exact q
  | brk => exact q
  | cont => exact q
theorem pss_one (h1 : PS X st t) : PSs X [st] t := by
  intro pins s σ H D I h
  refine wpAny_execs_cons (thn (h1 pins s σ H D I h) fun f s1 q => ?_)
  cases f with
  | next => exact wpAny_execs_nil q
  | ret v => exact q
  | brk => exact q
  | cont => exact q
theorem Inv.quiet {pins : List (Addr × Obj)} {σ : St} {H : Hp} {s : Shared} (I : Inv X pins σ H s) : interactive X.env = false := by simp [interactive, I.ok.kind]
def tDrop (te : TE) : TS := fun D σ H => te σ H fun _ H1 => D.nx σ H1
theorem ps_expr (he : PE X e te) (hs : swapsWith e none pos.line X.env = pure false := by rfl) : PS X (.Expr e pos) (tDrop te) := by
  intro pins s σ H D I h
  exact wpAny_Expr_any (thn (he pins s σ H _ I h) fun v s1 ⟨x, H1, I1, r1, q1⟩ => ⟨σ, H1, I1, q1⟩) I.quiet hs
def tRet (te : TE) : TS := fun D σ H => te σ H D.rt
theorem ps_ret (he : PE X e te) : PS X (.Return (some e) pos) (tRet te) := by
  intro pins s σ H D I h
  exact wpAny_Return_some (thn (he pins s σ H _ I h) fun v s1 ⟨x, H1, I1, r1, q1⟩ => ⟨x, σ, H1, I1, r1, q1⟩)
def tIfS (c : TT) (t u : TS) : TS := fun D σ H => c σ H fun b H1 => if b = true then t D σ H1 else u D σ H1
theorem ps_if {c : Expr} {a b : List Stmt} {tc : TT} (hc : PT X c tc) (ha : PSs X a t) (hb : PSs X b u) : PS X (.If c a b pos) (tIfS tc t u) := by
  intro pins s σ H D I h
  refine wpAny_If (thn (hc pins s σ H _ I h) fun d s1 ⟨H1, I1, q1⟩ => ?_)
  cases d with
  | true => exact ha pins s1 σ H1 D I1 q1
  | false => exact hb pins s1 σ H1 D I1 q1
def tNever : TS := fun _ _ _ => False
theorem pss_never {sts : List Stmt} : PSs X sts tNever := fun _ _ _ _ _ _ h => h.elim
end
abbrev TG := V → St → Hp → (St → Hp → Prop) → Prop
def PG (X : Cx) (target : Expr) (t : TG) : Prop :=
  ∀ (pins : List (Addr × Obj)) (s : Shared) (σ : St) (H : Hp) (v : V) (u : Value) (Q : St → Hp → Prop), Inv X pins σ H s → RelV v u → t v σ H Q →
    wpAny (model X.prog X.w) X.A (assign target X.env u) (fun _ s' => ∃ σ' H', Inv X pins σ' H' s' ∧ Q σ' H') X.xe s
section
variable {X : Cx} {pos : Pos}
def gName (i : Nat) : TG := fun v σ H Q => Q (σ.set i (some v)) H
theorem pg_name {i : Nat} {x : Str} (hN : X.N.Nodup) (hi : X.N[i]? = some x) (hx : Loc X.env.scope x) (hf : X.fn x = true ∨ X.env.scope.names.lookup x = some .local := by first | exact .inl rfl | exact .inr rfl | assumption) : PG X (.Name x pos) (gName i) := by
  intro pins s σ H v u Q I r h
  exact wpAny_assign_Name (store_ok I hN hi hx r (fun s' I' => ⟨_, H, I', h⟩) hf)
def tAsg (te : TE) (g : TG) : TS := fun D σ H => te σ H fun x H1 => g x σ H1 D.nx
theorem ps_set {i : Nat} {x : Str} {e : Expr} {te : TE} {pos' : Pos} (hN : X.N.Nodup) (hi : X.N[i]? = some x) (hx : Loc X.env.scope x) (he : PE X e te) (hs : swapsWith e (some (.Name x pos')) pos.line X.env = pure false := by rfl) (hf : X.fn x = true ∨ X.env.scope.names.lookup x = some .local := by first | exact .inl rfl | exact .inr rfl | assumption) :
    PS X (.Assign [.Name x pos'] e pos) (tAsg te (gName i)) := by
  intro pins s σ H D I h
  refine wpAny_Assign_Name (thn (he pins s σ H _ I h) fun v s1 ⟨y, H1, I1, r1, q1⟩ => ?_) hs
  exact store_ok I1 hN hi hx r1 (fun s2 I2 => ⟨_, H1, I2, q1⟩) hf
end
section
variable {X : Cx} {pos : Pos}
end
structure It where
  go : Nat → Hp → Prop
  yld : Nat → Hp → V → Hp → Prop
  stop : Nat → Hp → Prop
def FpOk (X : Cx) (pins : List (Addr × Obj)) (H : Hp) (b : Addr) : Prop :=
  H b = none ∧ b ≠ X.env.locals ∧ b ∉ X.fs ∧ (b ∈ X.ex ∨ X.s₀.heap.objs.size ≤ b) ∧ (∀ x c, X.env.cells.lookup x = some c → c ≠ b) ∧ ∀ p ∈ X.pn ++ pins, p.1 ≠ b
theorem Inv.fpOk {X : Cx} {pins : List (Addr × Obj)} {σ : St} {H H' : Hp} {s : Shared} {b : Addr} (I : Inv X pins σ H s) (hb : s.heap.objs.size ≤ b) (hn : H' b = none) : FpOk X pins H' b := by
  refine ⟨hn, Nat.ne_of_gt (Nat.lt_of_lt_of_le I.lt hb), I.nofs hb, .inr (Nat.le_trans I.sz hb), fun x c e z => ?_, fun p hp z => ?_⟩
  · obtain ⟨v, q⟩ := I.cell x c e
    exact absurd (Nat.lt_of_lt_of_le q.lt (by rw [z]; exact hb)) (Nat.lt_irrefl _)
  · exact absurd (Nat.lt_of_lt_of_le (Heap.lt_size (I.pin p hp).1) (by rw [z]; exact hb)) (Nat.lt_irrefl _)
structure Turn (P : Program) (w : World) (K : PySem.W.Frag) (tg : Expr) (J : It) (fp : List Addr) (it : Addr) (tn : Nat → Heap → Prop) : Prop where
  mem : it ∈ fp
  obj : ∀ i h, tn i h → ∀ b ∈ fp, ∃ o, h.get? b = some o ∧ ∀ v, o.data ≠ .cell v
  keep : ∀ i h h', tn i h → (∀ b ∈ fp, ∀ o, h.get? b = some o → h'.get? b = some o) → tn i h'
  item : ∀ (X : Cx), X.prog = P → X.w = w → X.K = K → X.calm = true → ∀ (i : Nat) (pins : List (Addr × Obj)) (s : Shared) (σ : St) (H : Hp) (E : Value → Shared → Prop), Inv X pins σ H s → (∀ b ∈ fp, FpOk X pins H b) → tn i s.heap → J.go i H →
    wpAny (model P w) X.A (pyNext (.ref it)) (fun r s1 => ∃ u, r = some u ∧
      wpAny (model P w) X.A (letOwnedTupleGo tg (.ref it) u) (fun _ s2 => ∃ x H', Inv X pins σ H' s2 ∧ RelV x u ∧ J.yld i H x H' ∧ tn (i + 1) s2.heap ∧ ∀ b ∈ fp, H' b = none) E s1) E s
  done : ∀ (X : Cx), X.prog = P → X.w = w → X.K = K → X.calm = true → ∀ (i : Nat) (pins : List (Addr × Obj)) (s : Shared) (σ : St) (H : Hp) (E : Value → Shared → Prop), Inv X pins σ H s → (∀ b ∈ fp, FpOk X pins H b) → tn i s.heap → J.stop i H →
    wpAny (model P w) X.A (pyNext (.ref it)) (fun r s1 => r = none ∧ Inv X pins σ H s1) E s
  self : ∀ (A : Around) (i : Nat) (s : Shared) (Q : Value → Shared → Prop) (E : Value → Shared → Prop), tn i s.heap → Q (.ref it) s → wpAny (model P w) A (pyIter (.ref it)) Q E s
abbrev TI := St → Hp → (It → Hp → Prop) → Prop
def PIE (X : Cx) (pins : List (Addr × Obj)) (σ : St) (tg : Expr) (R : It → Hp → Prop) (itv : Value) (s2 : Shared) : Prop :=
  ∃ (it : Addr) (fp : List Addr) (tn : Nat → Heap → Prop) (J : It) (H' : Hp), itv = .ref it ∧ Inv X pins σ H' s2 ∧ Turn X.prog X.w X.K tg J fp it tn ∧ tn 0 s2.heap ∧ (∀ b ∈ fp, FpOk X pins H' b) ∧ R J H'
def PI (X : Cx) (tg iter : Expr) (wi : TI) : Prop :=
  ∀ (pins : List (Addr × Obj)) (s : Shared) (σ : St) (H : Hp) (R : It → Hp → Prop), Inv X pins σ H s → wi σ H R →
    wpAny (model X.prog X.w) X.A (eval iter X.env) (fun v s1 => wpAny (model X.prog X.w) X.A (pyIter v) (PIE X pins σ tg R) X.xe s1) X.xe s
theorem go_of {M : Model} {A : Around} {E : Value → Shared → Prop} {s : Shared} {tg : Expr} {it : Addr} {u : Value} {o : Obj} {n : String} {vs : Array Value} {Q : Unit → Shared → Prop} (ho : s.heap.get? it = some o) (hc : o.cls = .type n) (hd : o.data = .fields vs)
    (hn : ["enumerate", "zip", "dict_itemiterator", "dict_reverseitemiterator", "odict_iterator", "itertools.zip_longest", "itertools.pairwise"].contains n = false) (hQ : Q () s) : wpAny M A (letOwnedTupleGo tg (.ref it) u) Q E s := by
  unfold letOwnedTupleGo
  cases tg <;> first
    | exact wpAny_pure hQ
    | (cases u <;> first
        | exact wpAny_pure hQ
        | (refine wpAny_bind (wpAny_load ho ?_)
           rw [hc, hd]
           show wpAny M A (if (["enumerate", "zip", "dict_itemiterator", "dict_reverseitemiterator", "odict_iterator", "itertools.zip_longest", "itertools.pairwise"].contains n && vs[0]? == some (rawInt _)) = true then _ else _) Q E s
           rw [if_neg (by intro h; rw [hn, Bool.false_and] at h; cases h)]
           exact wpAny_pure hQ))
def Itl (K : PySem.W.Frag) (a : Addr) : It :=
  ⟨fun i H => ∃ xs x, SqL K H a xs ∧ xs[i]? = some x, fun i H x H' => H' = H ∧ ∀ xs, SqL K H a xs → xs[i]? = some x, fun i H => ∃ xs, SqL K H a xs ∧ xs.length ≤ i⟩
def Itr (lo : Int) (n : Nat) : It := ⟨fun i _ => i < n, fun i H x H' => H' = H ∧ x = .int (lo + i), fun i _ => n ≤ i⟩
theorem turn_list {P : Program} {w : World} {K : PySem.W.Frag} {tg : Expr} (a it : Addr) : Turn P w K tg (Itl K a) [it] it (fun i h => h.IsListIter it a i) where
  mem := by simp
  obj := fun i h st b hb => by
    have e : b = it := by simpa using hb
    subst e
    obtain ⟨o, e, c, d⟩ := st
    exact ⟨o, e, fun v z => by rw [d] at z; cases z⟩
  keep := fun i h h' st k => st.at fun o e => k it (by simp) o e
  item := by
    intro X hP hw hK hc i pins s σ H E I hf st hg
    subst hP hw hK
    obtain ⟨xs, x, hq, hx⟩ := hg
    obtain ⟨its, rv, p, hz⟩ := I.list hq
    obtain ⟨u, hu, ru⟩ := rv.get hx
    obtain ⟨f0, f1, f2, f3, f4, f5⟩ := hf it (by simp)
    refine wpAny_pyNext_list_item st p.isList (x := u) (by simpa using hu) fun h' st' sb => ?_
    have I1 : Inv X pins σ H { s with heap := h' } := I.turned (t' := s.toks) (fun b o hb e => (sb.2 b hb).trans e) f0 f1 f3 f4 f5
    obtain ⟨o, e, c, d⟩ := id st'
    exact ⟨u, rfl, go_of (s := { s with heap := h' }) e c d (by decide) ⟨x, H, I1, ru, ⟨rfl, fun ys hy => by rw [I.list_inj hy hq]; exact hx⟩, st', fun b hb => (hf b hb).1⟩⟩
  done := by
    intro X hP hw hK hc i pins s σ H E I hf st hg
    subst hP hw hK
    obtain ⟨xs, hq, hx⟩ := hg
    obtain ⟨its, rv, p, hz⟩ := I.list hq
    obtain ⟨f0, f1, f2, f3, f4, f5⟩ := hf it (by simp)
    have hl := rv.length
    exact wpAny_pyNext_list_end (I.ok.hd hc) st p.isList (by simp; omega) fun h' eb => ⟨rfl, I.turned (t' := s.toks) (fun b o hb e => eb b o hb e) f0 f1 f3 f4 f5⟩
  self := fun _ _ _ _ _ st h => wpAny_pyIter_listiter st h
theorem turn_range {P : Program} {w : World} {K : PySem.W.Frag} {tg : Expr} (it : Addr) (lo : Int) (n : Nat) : Turn P w K tg (Itr lo n) [it] it (fun i h => IsRangeIter h it (lo + (i : Nat) * 1) ((n : Int) - (i : Nat)) 1) where
  mem := by simp
  obj := fun i h st b hb => by
    have e : b = it := by simpa using hb
    subst e
    exact ⟨_, st, fun v z => by
      have z' : Data.fields _ = Data.cell v := z
      cases z'⟩
  keep := fun i h h' st k => k it (by simp) _ st
  item := by
    intro X hP hw hK hc i pins s σ H E I hf st hg
    subst hP hw hK
    obtain ⟨f0, f1, f2, f3, f4, f5⟩ := hf it (by simp)
    have W := Walks.range (prog := X.prog) (w := X.w) (I.ok.hd hc) it lo 1 n
    refine W.item i s _ _ hg st fun v h' tk hv st' kk => ?_
    obtain ⟨t, rfl⟩ := hv
    have I1 : Inv X pins σ H { s with heap := h', toks := tk } := I.turned (fun b o hb e => kk b o (by simpa using hb) e) f0 f1 f3 f4 f5
    refine ⟨_, rfl, go_of (s := { s with heap := h', toks := tk }) (n := "range_iterator") st' rfl rfl (by decide) ⟨.int (lo + i), H, I1, ⟨t, ?_⟩, ⟨rfl, rfl⟩, st', fun b hb => (hf b hb).1⟩⟩
    rw [Int.mul_one]
  done := by
    intro X hP hw hK hc i pins s σ H E I hf st hg
    subst hP hw hK
    obtain ⟨f0, f1, f2, f3, f4, f5⟩ := hf it (by simp)
    exact wpAny_pyNext_range_end (I.ok.hd hc) st (by have : n ≤ i := hg; omega) fun h' eb => ⟨rfl, I.turned (t' := s.toks) (fun b o hb e => eb b o hb e) f0 f1 f3 f4 f5⟩
  self := fun _ _ _ _ _ st h => wpAny_pyIter_rangeiter st h
end L2
namespace L2
open PySem PySem.Spec PyProof.Rows
section
variable {X : Cx} {tg : Expr}
def iList (K : PySem.W.Frag) (tl : TE) : TI := fun σ H R => tl σ H fun x H1 => ∃ a, x = .ref a ∧ (∃ xs, SqL K H1 a xs) ∧ R (Itl K a) H1
theorem pi_list {l : Expr} {tl : TE} (hl : PE X l tl) : PI X tg l (iList X.K tl) := by
  intro pins s σ H R I h
  refine thn (hl pins s σ H _ I h) fun v s1 ⟨x, H1, I1, r1, q1⟩ => ?_
  obtain ⟨a, e, ⟨xs, hq⟩, q⟩ := q1
  subst e
  cases r1
  obtain ⟨its, rv, p, hz⟩ := I1.list hq
  refine wpAny_pyIter_list p.isList ?_
  refine ⟨s1.heap.objs.size, [s1.heap.objs.size], _, _, H1, rfl, I1.kept (t' := s1.toks) fun b o e => Heap.get?_push_of_some _ e, turn_list a _, ⟨_, Heap.get?_push_size _ rfl, rfl, rfl⟩, fun b hb => ?_, q⟩
  have e : b = s1.heap.objs.size := by simpa using hb
  subst e
  exact I1.fpOk (Nat.le_refl _) (I1.hok.fresh (Nat.le_refl _))
theorem range_it {pins : List (Addr × Obj)} {σ : St} {H : Hp} {s : Shared} {R : It → Hp → Prop} {E : Value → Shared → Prop} {lo hi : Int} {t u v : Tok} {tk : Nat} (I : Inv X pins σ H s) (h1 : -(2 ^ 62) ≤ lo) (h2 : lo < 2 ^ 62) (h3 : -(2 ^ 62) ≤ hi) (h4 : hi < 2 ^ 62)
    (q : R (Itr lo (hi - lo).toNat) H) : wpAny (model X.prog X.w) X.A (pyIter (.ref s.heap.objs.size)) (PIE X pins σ tg R) E { s with heap := s.heap.push { cls := .type "range", data := .fields #[.int lo t, .int hi u, .int 1 v] }, toks := tk } := by
  refine wpAny_pyIter_range (IsRange.new ..) (small_one h1 h2 h3 h4) ?_
  have I1 : Inv X pins σ H { s with heap := s.heap.push { cls := .type "range", data := .fields #[.int lo t, .int hi u, .int 1 v] }, toks := tk } := I.kept fun b o e => Heap.get?_push_of_some _ e
  refine ⟨(s.heap.push { cls := .type "range", data := .fields #[.int lo t, .int hi u, .int 1 v] }).objs.size, [(s.heap.push { cls := .type "range", data := .fields #[.int lo t, .int hi u, .int 1 v] }).objs.size], _, _, H, rfl,
    I1.kept (t' := tk) fun b o e => Heap.get?_push_of_some _ e, turn_range _ lo (hi - lo).toNat, ?_, fun b hb => ?_, q⟩
  · have e1 : lo + ((0 : Nat) : Int) * 1 = lo := by simp
    have e2 : (((hi - lo).toNat : Nat) : Int) - ((0 : Nat) : Int) = Builtin.Range.rangeSize lo hi 1 := by rw [rangeSize_one]; split <;> omega
    show IsRangeIter _ _ (lo + ((0 : Nat) : Int) * 1) ((((hi - lo).toNat : Nat) : Int) - ((0 : Nat) : Int)) 1
    rw [e1, e2]
    exact Heap.get?_push_size _ rfl
  · have e : b = (s.heap.push { cls := .type "range", data := .fields #[.int lo t, .int hi u, .int 1 v] }).objs.size := by simpa using hb
    subst e
    exact I1.fpOk (Nat.le_refl _) (I1.hok.fresh (Nat.le_refl _))
def iRng1 (ta : TA) : TI := fun σ H R => ta σ H fun vs H1 => ∃ j : Int, vs = [.int j] ∧ -(2 ^ 62) ≤ j ∧ j < 2 ^ 62 ∧ R (Itr 0 j.toNat) H1
theorem pi_range1 {a : Expr} {ta : TA} {p pos : Pos} (hg : Gl X "range") (hm : X.mg "range" = none) (ha : PA X [a] ta) (hs : starEach [a] X.env = [(false, eval a X.env)] := by rfl) : PI X tg (.Call (.Name "range" p) [a] [] pos) (iRng1 ta) := by
  intro pins s σ H R I h
  refine Call_ (ld_blt I hg hm boot_range (PyProof.Rows.callWith_type1 (thn (ha pos pins s σ H _ I h) fun us s1 ⟨vs, H1, I1, r1, q1⟩ => ?_) hs rfl))
  obtain ⟨j, e, q1, q2, q⟩ := q1
  subst e
  cases r1 with
  | cons r rr =>
    cases rr
    obtain ⟨t, rfl⟩ := r
    exact call_range_1 (range_it I1 (by omega) (by omega) q1 q2 (by simpa using q))
def tFor (wi : TI) (g : TG) (tb : TS) : TS := fun D σ H => wi σ H fun J H1 => ∃ W : Nat → Nat → St → Hp → Prop, (∃ m, W 0 m σ H1) ∧ ∀ i m σ H, W i m σ H →
  (J.stop i H ∧ D.nx σ H) ∨ (J.go i H ∧ ∃ N : St → Hp → Prop, (∀ σ' H', N σ' H' → ∃ m', m' < m ∧ W (i + 1) m' σ' H') ∧ ∀ x H', J.yld i H x H' → g x σ H' fun σ2 H2 => tb { D with nx := N, ct := N, bk := D.nx } σ2 H2)
def pinsAt (fp : List Addr) (h : Heap) : List (Addr × Obj) := fp.filterMap fun b => (h.get? b).map fun o => (b, o)
theorem mem_pinsAt {fp : List Addr} {h : Heap} {b : Addr} {o : Obj} (hb : b ∈ fp) (e : h.get? b = some o) : (b, o) ∈ pinsAt fp h := List.mem_filterMap.mpr ⟨b, hb, by rw [e]; rfl⟩
theorem of_pinsAt {fp : List Addr} {h : Heap} {p : Addr × Obj} (hp : p ∈ pinsAt fp h) : p.1 ∈ fp ∧ h.get? p.1 = some p.2 := by
  obtain ⟨b, hb, e⟩ := List.mem_filterMap.mp hp
  cases q : h.get? b with
  | none => rw [q] at e; cases e
  | some o =>
    rw [q] at e
    have e' : (b, o) = p := Option.some.inj e
    subst e'
    exact ⟨hb, q⟩
theorem Inv.pinned {pins : List (Addr × Obj)} {σ : St} {H : Hp} {s : Shared} {fp : List Addr} (I : Inv X pins σ H s) (hf : ∀ b ∈ fp, FpOk X pins H b) (ho : ∀ b ∈ fp, ∃ o, s.heap.get? b = some o ∧ ∀ v, o.data ≠ .cell v) : Inv X (pins ++ pinsAt fp s.heap) σ H s :=
  I.pins_of fun p hp => (List.mem_append.mp hp).elim (fun z => I.pin p (List.mem_append_right _ z)) fun z => by
    obtain ⟨hb, e⟩ := of_pinsAt z
    obtain ⟨f0, f1, f2, _⟩ := hf p.1 hb
    obtain ⟨o, e', d⟩ := ho p.1 hb
    rw [e] at e'; cases e'
    exact ⟨e, f0, f1, f2, d⟩
theorem Inv.unpinned {pins pl : List (Addr × Obj)} {σ : St} {H : Hp} {s : Shared} (I : Inv X (pins ++ pl) σ H s) : Inv X pins σ H s := I.pins_of fun p hp => I.pin p (List.mem_append_right _ (List.mem_append_left _ hp))
theorem ps_for {iter : Expr} {body : List Stmt} {wi : TI} {g : TG} {tb : TS} {pos : Pos} (hp : PassesOwn (model X.prog X.w) X.A X.env X.xe) (hc : X.calm = true) (hi : PI X tg iter wi) (hg : PG X tg g) (hb : PSs X body tb)
    (hs : ∀ x, foldedSetIterable iter X.env x = pure x := by intro _; rfl) : PS X (.For tg iter body [] pos) (tFor wi g tb) := by
  intro pins s σ H D I h
  refine wpAny_For (thn (hi pins s σ H _ I h) fun v s1 h1 => thn h1 fun itv s2 h2 => ?_) hs
  obtain ⟨it, fp, tn, J, H2, e, I2, T, st2, f2, W, ⟨m0, w0⟩, turn⟩ := h2
  subst e
  have stat : ∀ {H' : Hp}, (∀ b ∈ fp, H' b = none) → ∀ b ∈ fp, FpOk X pins H' b := fun hn b hb => ⟨hn b hb, (f2 b hb).2⟩
  refine codeAny_forLoop_any (fun n s' => ∃ i σ' H', Inv X pins σ' H' s' ∧ tn i s'.heap ∧ (∀ b ∈ fp, H' b = none) ∧ W i n σ' H') ?_ m0 ⟨0, σ, H2, I2, st2, fun b hb => (f2 b hb).1, w0⟩
  rintro n s3 ⟨i, σ3, H3, I3, st3, fr3, w3⟩
  rcases turn i n σ3 H3 w3 with ⟨stop, qn⟩ | ⟨go, N, hN, step⟩
  · refine wpAny_passesOwn hp (thn (T.done X rfl rfl rfl hc i pins s3 σ3 H3 X.xe I3 (stat fr3) st3 stop) fun r s4 ⟨hr, I4⟩ => ?_)
    subst hr
    exact wpAny_execs_nil ⟨σ3, H3, I4, qn⟩
  · refine wpAny_passesOwn hp (thn (T.item X rfl rfl rfl hc i pins s3 σ3 H3 X.xe I3 (stat fr3) st3 go) fun r s4 ⟨u, hr, h4⟩ => ?_)
    subst hr
    refine wpAny_passesOwn hp (thn h4 fun _ s5 ⟨x, H5, I5, r5, y5, st5, fr5⟩ => ?_)
    have I5' := I5.pinned (stat fr5) (T.obj _ _ st5)
    refine wpAny_passesOwn hp (thn (hg _ s5 σ3 H5 x u _ I5' r5 (step x H5 y5)) fun _ s6 ⟨σ6, H6, I6, q6⟩ => ?_)
    refine wpAny_passesOwn hp (thn (hb _ s6 σ6 H6 _ I6 q6) fun f s7 q7 => ?_)
    have again : ∀ {σ7 : St} {H7 : Hp}, Inv X (pins ++ pinsAt fp s5.heap) σ7 H7 s7 → N σ7 H7 → ∃ m, m < n ∧ ∃ i σ' H', Inv X pins σ' H' s7 ∧ tn i s7.heap ∧ (∀ b ∈ fp, H' b = none) ∧ W i m σ' H' := fun {σ7 H7} I7 n7 => by
      obtain ⟨m', hm, w7⟩ := hN σ7 H7 n7
      refine ⟨m', hm, i + 1, σ7, H7, I7.unpinned, T.keep _ _ _ st5 fun b hb o e => (I7.pin (b, o) (List.mem_append_right _ (List.mem_append_right _ (mem_pinsAt hb e)))).1, fun b hb => ?_, w7⟩
      obtain ⟨o, e, d⟩ := T.obj _ _ st5 b hb
      exact (I7.pin (b, o) (List.mem_append_right _ (List.mem_append_right _ (mem_pinsAt hb e)))).2.1
    cases f with
    | next => obtain ⟨σ7, H7, I7, n7⟩ := q7; exact again I7 n7
    | cont => obtain ⟨σ7, H7, I7, n7⟩ := q7; exact again I7 n7
    | brk => obtain ⟨σ7, H7, I7, q7⟩ := q7; exact ⟨σ7, H7, I7.unpinned, q7⟩
    | ret v => obtain ⟨x7, σ7, H7, I7, r7, q7⟩ := q7; exact ⟨x7, σ7, H7, I7.unpinned, r7, q7⟩
end
theorem for_list {K : PySem.W.Frag} {a : Addr} {xs : List V} {g : TG} {tb : TS} {D : Ends} {σ : St} {H : Hp} (Pv : Nat → St → Hp → Prop) (h0 : Pv 0 σ H) (hl : ∀ i σ H, i ≤ xs.length → Pv i σ H → SqL K H a xs)
    (hs : ∀ i x σ H, xs[i]? = some x → Pv i σ H → g x σ H fun σ2 H2 => tb { D with nx := Pv (i + 1), ct := Pv (i + 1), bk := D.nx } σ2 H2) (hd : ∀ σ H, Pv xs.length σ H → D.nx σ H) :
    ∃ W : Nat → Nat → St → Hp → Prop, (∃ m, W 0 m σ H) ∧ ∀ i m σ H, W i m σ H →
      ((Itl K a).stop i H ∧ D.nx σ H) ∨ ((Itl K a).go i H ∧ ∃ N : St → Hp → Prop, (∀ σ' H', N σ' H' → ∃ m', m' < m ∧ W (i + 1) m' σ' H') ∧ ∀ x H', (Itl K a).yld i H x H' → g x σ H' fun σ2 H2 => tb { D with nx := N, ct := N, bk := D.nx } σ2 H2) := by
  refine ⟨fun i m σ H => m = xs.length - i ∧ i ≤ xs.length ∧ Pv i σ H, ⟨xs.length, by simp, Nat.zero_le _, h0⟩, ?_⟩
  rintro i m σ H ⟨rfl, hi, p⟩
  have q := hl i σ H hi p
  by_cases hlt : i < xs.length
  · refine .inr ⟨⟨xs, xs[i], q, by simp [hlt]⟩, Pv (i + 1), fun σ' H' p' => ⟨xs.length - (i + 1), by omega, rfl, hlt, p'⟩, fun x H' y => ?_⟩
    obtain ⟨e, y⟩ := y
    subst e
    exact hs i x σ _ (y xs q) p
  · have e : i = xs.length := by omega
    subst e
    exact .inl ⟨⟨xs, q, Nat.le_refl _⟩, hd σ H p⟩
theorem for_range {lo : Int} {n : Nat} {g : TG} {tb : TS} {D : Ends} {σ : St} {H : Hp} (Pv : Nat → St → Hp → Prop) (h0 : Pv 0 σ H)
    (hs : ∀ i σ H, i < n → Pv i σ H → g (.int (lo + i)) σ H fun σ2 H2 => tb { D with nx := Pv (i + 1), ct := Pv (i + 1), bk := D.nx } σ2 H2) (hd : ∀ σ H, Pv n σ H → D.nx σ H) :
    ∃ W : Nat → Nat → St → Hp → Prop, (∃ m, W 0 m σ H) ∧ ∀ i m σ H, W i m σ H →
      ((Itr lo n).stop i H ∧ D.nx σ H) ∨ ((Itr lo n).go i H ∧ ∃ N : St → Hp → Prop, (∀ σ' H', N σ' H' → ∃ m', m' < m ∧ W (i + 1) m' σ' H') ∧ ∀ x H', (Itr lo n).yld i H x H' → g x σ H' fun σ2 H2 => tb { D with nx := N, ct := N, bk := D.nx } σ2 H2) := by
  refine ⟨fun i m σ H => m = n - i ∧ i ≤ n ∧ Pv i σ H, ⟨n, by simp, Nat.zero_le _, h0⟩, ?_⟩
  rintro i m σ H ⟨rfl, hi, p⟩
  by_cases hlt : i < n
  · refine .inr ⟨hlt, Pv (i + 1), fun σ' H' p' => ⟨n - (i + 1), by omega, rfl, hlt, p'⟩, fun x H' y => ?_⟩
    obtain ⟨e, y⟩ := y
    subst e y
    exact hs i σ _ hlt p
  · have e : i = n := by omega
    subst e
    exact .inl ⟨Nat.le_refl _, hd σ H p⟩
end L2
namespace L2
open PySem PySem.Spec PyProof.Rows
abbrev R2 := V → V → Hp → VK → Prop
def OpR (X : Cx) (f : Value → Value → Sem Value) (r : R2) : Prop :=
  ∀ (pins : List (Addr × Obj)) (s : Shared) (σ : St) (H : Hp) (x y : V) (v u : Value) (Q : VK), Inv X pins σ H s → RelV x v → RelV y u → r x y H Q →
    wpAny (model X.prog X.w) X.A (f v u) (EP X pins σ Q) X.xe s
def CallR (X : Cx) (f : Value) (r : List V → Hp → VK → Prop) : Prop :=
  ∀ (pins : List (Addr × Obj)) (s : Shared) (σ : St) (H : Hp) (xs : List V) (us : List Value) (Q : VK), Inv X pins σ H s → Vals xs us → r xs H Q →
    wpAny (model X.prog X.w) X.A (call f us) (EP X pins σ Q) X.xe s
def tOp (r : R2) (ta tb : TE) : TE := fun σ H Q => ta σ H fun x H1 => tb σ H1 fun y H2 => r x y H2 Q
def rI (C : Int → Int → Prop) (g : Int → Int → V) : R2 := fun x y H Q => ∃ i j, x = .int i ∧ y = .int j ∧ C i j ∧ Q (g i j) H
def rI0 (g : Int → Int → V) : R2 := fun x y H Q => ∃ i j, x = .int i ∧ y = .int j ∧ Q (g i j) H
section
variable {X : Cx} {a b c : Expr} {ta tb tc : TE} {pos : Pos}
theorem binT (ha : PE X a ta) (hb : PE X b tb) {pins : List (Addr × Obj)} {s : Shared} {σ : St} {H : Hp} {R : V → V → Hp → Prop} (I : Inv X pins σ H s)
    (h : ta σ H fun x H1 => tb σ H1 fun y H2 => R x y H2) {Q : Value → Shared → Prop} {f : Value → Value → Sem Value}
    (hf : ∀ v u s2 x y H2, Inv X pins σ H2 s2 → RelV x v → RelV y u → R x y H2 → wpAny (model X.prog X.w) X.A (f v u) Q X.xe s2) :
    wpAny (model X.prog X.w) X.A (eval a X.env) (fun v s₁ => wpAny (model X.prog X.w) X.A (eval b X.env) (fun u s₂ => wpAny (model X.prog X.w) X.A (f v u) Q X.xe s₂) X.xe s₁) X.xe s := by
  refine thn (ha pins s σ H _ I h) fun v s1 ⟨x, H1, I1, r1, q1⟩ => ?_
  refine thn (hb pins s1 σ H1 _ I1 q1) fun u s2 ⟨y, H2, I2, r2, q2⟩ => ?_
  exact hf v u s2 x y H2 I2 r1 r2 q2
theorem pe_op {op : Operator} {r : R2} (ho : OpR X (binaryOp op) r) (ha : PE X a ta) (hb : PE X b tb) : PE X (.BinOp a op b pos) (tOp r ta tb) := by
  intro pins s σ H Q I h
  exact wpAny_BinOp (binT ha hb I h fun v u s2 x y H2 I2 rx ry q => ho pins s2 σ H2 x y v u Q I2 rx ry q)
theorem opI {f : Value → Value → Sem Value} {C : Int → Int → Prop} {g : Int → Int → Int}
    (rule : ∀ (i j : Int) (t u : Tok) (s : Shared) (Q : Value → Shared → Prop) (E : Value → Shared → Prop), C i j → Q (.int (g i j) s.toks) { s with toks := s.toks + 1 } → wpAny (model X.prog X.w) X.A (f (.int i t) (.int j u)) Q E s) :
    OpR X f (rI C fun i j => .int (g i j)) := by
  intro pins s σ H x y v u Q I rx ry h
  obtain ⟨i, j, rfl, rfl, hc, q⟩ := h
  obtain ⟨t, rfl⟩ := rx
  obtain ⟨t', rfl⟩ := ry
  exact rule i j t t' s _ _ hc ⟨.int (g i j), H, I.tok _, ⟨_, rfl⟩, q⟩
theorem opI0 {f : Value → Value → Sem Value} {g : Int → Int → Int}
    (rule : ∀ (i j : Int) (t u : Tok) (s : Shared) (Q : Value → Shared → Prop) (E : Value → Shared → Prop), Q (.int (g i j) s.toks) { s with toks := s.toks + 1 } → wpAny (model X.prog X.w) X.A (f (.int i t) (.int j u)) Q E s) :
    OpR X f (rI0 fun i j => .int (g i j)) := by
  intro pins s σ H x y v u Q I rx ry h
  obtain ⟨i, j, rfl, rfl, q⟩ := h
  obtain ⟨t, rfl⟩ := rx
  obtain ⟨t', rfl⟩ := ry
  exact rule i j t t' s _ _ ⟨.int (g i j), H, I.tok _, ⟨_, rfl⟩, q⟩
theorem opB0 {f : Value → Value → Sem Value} {g : Int → Int → Bool}
    (rule : ∀ (i j : Int) (t u : Tok) (s : Shared) (Q : Value → Shared → Prop) (E : Value → Shared → Prop), Q (.bool (g i j)) s → wpAny (model X.prog X.w) X.A (f (.int i t) (.int j u)) Q E s) :
    OpR X f (rI0 fun i j => .bl (g i j)) := by
  intro pins s σ H x y v u Q I rx ry h
  obtain ⟨i, j, rfl, rfl, q⟩ := h
  obtain ⟨t, rfl⟩ := rx
  obtain ⟨t', rfl⟩ := ry
  exact rule i j t t' s _ _ ⟨.bl (g i j), H, I, rfl, q⟩
def CDiv (i j : Int) : Prop := 0 < j ∧ j < 1073741824
def CPow (i j : Int) : Prop := 0 ≤ j ∧ j ≤ 1000000 ∧ i.natAbs < 2 ^ 64
def CMul (i j : Int) : Prop := (-(2 ^ 64) < i ∧ i < 2 ^ 64) ∨ (-(2 ^ 64) < j ∧ j < 2 ^ 64)
theorem CMul.ok {i j : Int} (h : CMul i j) : IntMulOk i j := by
  rcases h with ⟨h1, h2⟩ | ⟨h1, h2⟩
  · exact .of_left (intBits_le_64 h1 h2)
  · exact .of_right (intBits_le_64 h1 h2)
theorem op_add : OpR X (binaryOp .Add) (rI0 fun i j => .int (i + j)) := opI0 fun _ _ _ _ _ _ _ q => add_int q
theorem op_sub : OpR X (binaryOp .Sub) (rI0 fun i j => .int (i - j)) := opI0 fun _ _ _ _ _ _ _ q => sub_int q
theorem op_mul : OpR X (binaryOp .Mult) (rI CMul fun i j => .int (i * j)) := opI fun _ _ _ _ _ _ _ hc q => mul_int q hc.ok
theorem op_fdiv : OpR X (binaryOp .FloorDiv) (rI CDiv fun i j => .int (i / j)) := opI fun i j _ _ _ _ _ hc q => by
  have h1 : (0 : Int) < j := hc.1
  have h2 : j < 1073741824 := hc.2
  exact floordiv_int (by omega) (by rw [Int.fdiv_eq_ediv_of_nonneg i (by omega)]; exact q) (.inl (PyProof.noPylong_small (by omega)))
theorem op_mod : OpR X (binaryOp .Mod) (rI (fun _ j => 0 < j) fun i j => .int (i % j)) := opI fun i j _ _ _ _ _ hc q => by
  have h1 : (0 : Int) < j := hc
  exact mod_int' (by omega) (by rw [Int.fmod_eq_emod_of_nonneg i (by omega)]; exact q)
theorem op_pow : OpR X (binaryOp .Pow) (rI CPow fun i j => .int (i ^ j.toNat)) := opI fun _ _ _ _ _ _ _ hc q => pow_int_small hc.1 hc.2.1 hc.2.2 q
theorem op_xor : OpR X (binaryOp .BitXor) (rI0 fun i j => .int (Builtin.bitXor i j)) := opI0 fun _ _ _ _ _ _ _ q => xor_int q
end
section
variable {X : Cx} {a b c : Expr} {ta tb tc : TE} {pos : Pos}
theorem op_lt : OpR X (compareOp .Lt) (rI0 fun i j => .bl (decide (i < j))) := opB0 fun _ _ _ _ _ _ _ q => lt_int q
theorem op_le : OpR X (compareOp .LtE) (rI0 fun i j => .bl (decide (i ≤ j))) := opB0 fun _ _ _ _ _ _ _ q => le_int q
theorem op_gt : OpR X (compareOp .Gt) (rI0 fun i j => .bl (decide (j < i))) := opB0 fun _ _ _ _ _ _ _ q => gt_int q
theorem op_ge : OpR X (compareOp .GtE) (rI0 fun i j => .bl (decide (j ≤ i))) := opB0 fun _ _ _ _ _ _ _ q => ge_int q
theorem nomark (b : Expr) {op : CmpOp} (h : op ≠ .In := by decide) (h2 : op ≠ .NotIn := by decide) : behindInMarks op b = false := by
  have e1 : (op == CmpOp.In) = false := by cases op <;> first | rfl | exact absurd rfl h
  have e2 : (op == CmpOp.NotIn) = false := by cases op <;> first | rfl | exact absurd rfl h2
  cases b <;> simp [behindInMarks, e1, e2]
theorem pe_cmpR {op : CmpOp} {r : R2} (ho : OpR X (compareOp op) r) (ha : PE X a ta) (hb : PE X b tb) (hm : behindInMarks op b = false) : PE X (.Compare a [op] [b] pos) (tOp r ta tb) := by
  intro pins s σ H Q I h
  exact wpAny_Compare1 (binT ha hb I h fun v u s2 x y H2 I2 rx ry q => ho pins s2 σ H2 x y v u Q I2 rx ry q) hm
def tTest (t : TE) : TT := fun σ H Q => t σ H fun x H' => ∃ k, x = .bl k ∧ Q k H'
theorem pt_cmpR {op : CmpOp} {r : R2} (ho : OpR X (compareOp op) r) (ha : PE X a ta) (hb : PE X b tb) (hm : behindInMarks op b = false) : PT X (.Compare a [op] [b] pos) (tTest (tOp r ta tb)) := by
  intro pins s σ H Q I h
  refine wpAny_isTrue_Compare1 (thn (ha pins s σ H _ I h) fun v s1 ⟨x, H1, I1, r1, q1⟩ => thn (hb pins s1 σ H1 _ I1 q1) fun u s2 ⟨y, H2, I2, r2, q2⟩ =>
    thn (ho pins s2 σ H2 x y v u _ I2 r1 r2 q2) fun c s3 ⟨z, H3, I3, r3, k, e, q3⟩ => ?_) hm
  subst e
  cases r3
  exact wpAny_truthy_bool ⟨H3, I3, q3⟩
theorem line63 : (sizeLine : Nat) < 2 ^ 63 := by rw [sizeLine_eq]; decide
theorem vals1 {x : V} {us : List Value} (r : Vals [x] us) : ∃ u, us = [u] ∧ RelV x u := by
  cases r with
  | cons r1 r2 => cases r2; exact ⟨_, rfl, r1⟩
theorem vals2 {x y : V} {us : List Value} (r : Vals [x, y] us) : ∃ u w', us = [u, w'] ∧ RelV x u ∧ RelV y w' := by
  cases r with
  | cons r1 r2 =>
    cases r2 with
    | cons r3 r4 => cases r4; exact ⟨_, _, rfl, r1, r3⟩
theorem call_max2 (hc : X.calm = true) : CallR X (.builtin "max") (fun xs H Q => ∃ i j, xs = [.int i, .int j] ∧ Q (.int (if j > i then j else i)) H) := by
  intro pins s σ H xs us Q I r h
  obtain ⟨i, j, rfl, q⟩ := h
  obtain ⟨u, w', rfl, ⟨t, rfl⟩, ⟨t', rfl⟩⟩ := vals2 r
  refine max_two_ints (I.ok.hd hc) fun h' tk k => ⟨_, H, I.kept k, ?_, q⟩
  by_cases hj : j > i
  · rw [if_pos hj, if_pos hj]; exact ⟨_, rfl⟩
  · rw [if_neg hj, if_neg hj]; exact ⟨_, rfl⟩
theorem call_min2 (hc : X.calm = true) : CallR X (.builtin "min") (fun xs H Q => ∃ i j, xs = [.int i, .int j] ∧ Q (.int (if j < i then j else i)) H) := by
  intro pins s σ H xs us Q I r h
  obtain ⟨i, j, rfl, q⟩ := h
  obtain ⟨u, w', rfl, ⟨t, rfl⟩, ⟨t', rfl⟩⟩ := vals2 r
  refine min_two_ints (I.ok.hd hc) fun h' tk k => ⟨_, H, I.kept k, ?_, q⟩
  by_cases hj : j < i
  · rw [if_pos hj, if_pos hj]; exact ⟨_, rfl⟩
  · rw [if_neg hj, if_neg hj]; exact ⟨_, rfl⟩
theorem call_int1 : CallR X (.type "int") (fun xs H Q => (∃ i, xs = [.int i] ∧ Q (.int i) H) ∨ ∃ k, xs = [.bl k] ∧ Q (.int (if k then 1 else 0)) H) := by
  intro pins s σ H xs us Q I r h
  rcases h with ⟨i, rfl, q⟩ | ⟨k, rfl, q⟩
  · obtain ⟨u, rfl, t, rfl⟩ := vals1 r
    exact call_int_int ⟨.int i, H, I, ⟨_, rfl⟩, q⟩
  · obtain ⟨u, rfl, r1⟩ := vals1 r
    cases r1
    exact call_int_bool ⟨.int (if k then 1 else 0), H, I.tok _, ⟨_, rfl⟩, q⟩
end
end L2
namespace L2
open PySem PySem.Spec PyProof.Rows
structure ObjM (h : Heap) (x dx C : Addr) (mA : Str → Option Value) : Prop where
  obj : h.get? x = some (PySem.W.instObj C dx)
  ns : h.Ns1 dx mA
  ne : dx ≠ x
theorem lookIn_ns {h : Heap} {dx : Addr} {mA : Str → Option Value} (n : h.Ns1 dx mA) : ∃ od, h.get? dx = some od ∧ ∀ name, PySem.W.lookIn name od = some (mA name) := by
  obtain ⟨o, es, ep, ho, hd, hk, _, hm⟩ := n
  refine ⟨o, ho, fun name => ?_⟩
  have e := hm name
  unfold nsFind findBy at e
  rw [← Array.find?_toList] at e
  unfold PySem.W.lookIn
  rw [hd]
  dsimp only
  split
  · rename_i y q
    rw [q] at e
    exact congrArg some e
  · rename_i q
    rw [q] at e
    have a : es.toList.any (·.refKey) = false := by
      rw [List.any_eq_false]
      intro y hy
      obtain ⟨z, t, hkey⟩ := hk y (Array.mem_toList_iff.mp hy)
      simp [DictEntry.refKey, hkey]
    have a' : ¬ es.toList.any (·.refKey) = true := by rw [a]; exact Bool.false_ne_true
    rw [if_neg a']
    exact congrArg some e
theorem ObjM.look {h : Heap} {x dx C : Addr} {mA : Str → Option Value} (I : ObjM h x dx C mA) : ∃ od, PySem.W.InstAt h x (PySem.W.instObj C dx) C (some od) ∧ ∀ name, PySem.W.lookIn name od = some (mA name) :=
  let ⟨od, ho, hl⟩ := lookIn_ns I.ns
  ⟨od, ⟨I.obj, rfl, rfl, ho⟩, hl⟩
section
variable {prog : Program} {w : World} {A : Around} {E : Value → Shared → Prop} {s : Shared} {K : PySem.W.Frag} {x dx C f : Addr} {mA : Str → Option Value} {name : Str} {v : Value}
theorem get_map {expr : Bool} {Q : Value → Shared → Prop} (X : K.In s.heap) (I : ObjM s.heap x dx C mA) (hg : PySem.W.plainGet K C name = true) (hh : PySem.W.hasDictIn K C = true)
    (ha : PySem.W.findIn K (.ref C) name = some none) (hv : mA name = some v) (hv' : PySem.W.handedIn v = true) (h : Q v { s with toks := s.toks + 1 }) :
    wpAny (model prog w) A (getAttr (.ref x) name expr) Q E s := by
  obtain ⟨od, J, hl⟩ := I.look
  exact PySem.W.get_value X J (PySem.W.plainGet_of hg).1 (PySem.W.findObj_own hh ha rfl (by rw [hl, hv])) hv' h
theorem get_meth {pl : Sem Bool} {Q : Value × List Value → Shared → Prop} (X : K.In s.heap) (I : ObjM s.heap x dx C mA) (hg : PySem.W.plainGet K C name = true)
    (hf : PySem.W.findIn K (.ref C) name = some (some (.ref f))) (ht : PySem.W.isFn K (.ref f) = true) (hv : mA name = none) (h : Q (.ref f, [.ref x]) s) :
    wpAny (model prog w) A (getMethod (.ref x) name pl) Q E s := by
  obtain ⟨od, J, hl⟩ := I.look
  exact PySem.W.method_fn X J (PySem.W.plainGet_of hg).1 (PySem.W.plainGet_of hg).2 hf (beq_iff_eq.mp ht) (by show (PySem.W.lookIn name od).map (·.isSome) = some false; rw [hl, hv]; rfl) h
theorem set_map {ns : List Str} {Q : Unit → Shared → Prop} (X : K.In s.heap) (I : ObjM s.heap x dx C mA)
    (hs : PySem.W.findIn K (.ref C) "__setattr__" = some (some (.builtin "object.__setattr__"))) (hp : PySem.W.plainOver K C = true) (ht : PySem.W.takerIn K C name = some none) (hh : PySem.W.hasDictIn K C = true)
    (hw : PySem.Within mA ns) (hsz : ns.length ≤ sizeLine)
    (h : ∀ h', ObjM h' x dx C (fun y => if y = name then some v else mA y) → Heap.SameBut dx s.heap h' → Q () { s with heap := h', toks := s.toks + 2 }) :
    wpAny (model prog w) A (setAttr (.ref x) name v) Q E s := by
  obtain ⟨od, J, hl⟩ := I.look
  refine PySem.W.set_plain X J hs (PySem.W.osa_open (s := { s with toks := s.toks + 1 }) (r := none) X J hp ht fun b => ?_)
  obtain ⟨cd, hc, hd'⟩ := PySem.W.any_some hh
  have hx : s.heap.get? x = some ⟨.ref C, some dx, .plain, #[]⟩ := I.obj
  refine wpAny_bind (wpAny_pure (wpAny_bind (wpAny_bind (wpAny_loadPart hx (wpAny_bind (PySem.W.Looks.here (s := { s with toks := s.toks + 1 }) (PySem.W.looks_clsIn X hc) ?_))))))
  rw [hd']
  refine wpAny_pure (a := some dx) (wpAny_bind (wpAny_pure (wpAny_bind ?_)))
  refine wpAny_nsSet1 (s := { s with toks := s.toks + 1 }) I.ns fun h' hn2 hs2 => ?_
  obtain ⟨oD, esD, epD, hoD, hdD, hcD⟩ := hn2.count (PySem.Within.cons name v hw)
  refine wpAny_bind (wpAny_lookBehind hoD (by rw [hdD]; exact pastItsLine_dict (Nat.le_trans hcD (by rw [List.length_cons]; omega))) ?_)
  exact wpAny_pure (h _ ⟨(hs2.2 _ (Ne.symm I.ne)).trans I.obj, hn2, I.ne⟩ hs2)
theorem make_map {R : Result → Shared → Prop} {vs : List Value} {kw : List (Str × Value)} (X : K.In s.heap) (hm : PySem.W.makesIn K C = true)
    (hi : PySem.W.findIn K (.ref C) "__init__" = some (some (.ref f))) (hf : PySem.W.typeIn K (.ref f) = some (.type "function"))
    (h : codeAny (model prog w) (A.under (.builtin "type.__call__" ⟨.ref C :: vs, kw⟩)) (.call (.ref f) ⟨.ref (s.heap.objs.size + 1) :: vs, kw⟩) (PySem.W.InitBack (s.heap.objs.size + 1) R)
      { s with heap := (s.heap.push PySem.W.emptyDict).push (PySem.W.instObj C s.heap.objs.size) }) :
    codeAny (model prog w) A (.call (.ref C) ⟨vs, kw⟩) R s := by
  obtain ⟨hh, g, d, t, os⟩ := s
  exact PySem.W.make_core (PySem.W.makes_of X hm) (PySem.W.looks_findIn X hi) (fun self => PySem.W.bind_fn X self hf) (.inl rfl) h
end
def putF (f : Str) (v : V) : List (Str × V) → List (Str × V)
  | [] => [(f, v)]
  | (g, x) :: r => if g = f then (g, v) :: r else (g, x) :: putF f v r
theorem lookup_putF (f g : Str) (v : V) : ∀ fs : List (Str × V), (putF f v fs).lookup g = if g = f then some v else fs.lookup g
  | [] => by
    show List.lookup g [(f, v)] = _
    by_cases h : g = f
    · have hb : (g == f) = true := beq_iff_eq.mpr h
      simp only [List.lookup, hb, if_pos h]
    · have hb : (g == f) = false := beq_eq_false_iff_ne.mpr h
      simp only [List.lookup, hb, if_neg h]
  | (k, x) :: r => by
    have ih := lookup_putF f g v r
    rw [show putF f v ((k, x) :: r) = (if k = f then (k, v) :: r else (k, x) :: putF f v r) from rfl]
    by_cases hk : k = f
    · rw [if_pos hk]
      by_cases h : g = k
      · have hb : (g == k) = true := beq_iff_eq.mpr h
        simp only [List.lookup, hb, if_pos (h.trans hk)]
      · have hb : (g == k) = false := beq_eq_false_iff_ne.mpr h
        simp only [List.lookup, hb, if_neg (fun e : g = f => h (e.trans hk.symm))]
    · rw [if_neg hk]
      by_cases h : g = k
      · have hb : (g == k) = true := beq_iff_eq.mpr h
        simp only [List.lookup, hb, if_neg (fun e : g = f => hk (h.symm.trans e))]
      · have hb : (g == k) = false := beq_eq_false_iff_ne.mpr h
        simp only [List.lookup, hb]
        exact ih
theorem keys_putF (f : Str) (v : V) : ∀ fs : List (Str × V), f ∈ (putF f v fs).map (·.1) ∧ ∀ g, g ∈ fs.map (·.1) → g ∈ (putF f v fs).map (·.1)
  | [] => ⟨by simp [putF], fun g h => by simp at h⟩
  | (k, x) :: r => by
    obtain ⟨i1, i2⟩ := keys_putF f v r
    rw [show putF f v ((k, x) :: r) = (if k = f then (k, v) :: r else (k, x) :: putF f v r) from rfl]
    by_cases hk : k = f
    · rw [if_pos hk]
      subst hk
      exact ⟨by simp, fun g h => by simpa using h⟩
    · rw [if_neg hk]
      refine ⟨?_, fun g h => ?_⟩
      · rw [List.map_cons]
        exact List.mem_cons_of_mem _ i1
      · rw [List.map_cons] at h ⊢
        rcases List.mem_cons.mp h with e | e
        · exact List.mem_cons.mpr (.inl e)
        · exact List.mem_cons_of_mem _ (i2 g e)
theorem length_putF (f : Str) (v : V) : ∀ fs : List (Str × V), (putF f v fs).length ≤ fs.length + 1
  | [] => by simp [putF]
  | (k, x) :: r => by
    have ih := length_putF f v r
    rw [show putF f v ((k, x) :: r) = (if k = f then (k, v) :: r else (k, x) :: putF f v r) from rfl]
    by_cases hk : k = f
    · rw [if_pos hk, List.length_cons, List.length_cons]; omega
    · rw [if_neg hk, List.length_cons, List.length_cons]; omega
theorem RelO.some_of {v : V} {o : Option Value} (r : RelO (some v) o) : ∃ u, o = some u ∧ RelV v u := by
  cases o with
  | none => exact (show False from r).elim
  | some u => exact ⟨u, rfl, r⟩
theorem RelO.none_of {o : Option Value} (r : RelO none o) : o = none := by
  cases o with
  | none => rfl
  | some u => exact (show False from r).elim
theorem handed_of {v : V} {u : Value} (r : RelV v u) : PySem.W.handedIn u = true := by
  cases v with
  | non => cases (show u = Value.none from r); rfl
  | bl b => cases (show u = Value.bool b from r); rfl
  | int i => obtain ⟨t, e⟩ := (show ∃ t, u = Value.int i t from r); cases e; rfl
  | str x => obtain ⟨t, e⟩ := (show ∃ t, u = Value.str x t from r); cases e; rfl
  | byt b => obtain ⟨t, e⟩ := (show ∃ t, u = Value.bytes b t from r); cases e; rfl
  | flt b => obtain ⟨t, e⟩ := (show ∃ t, u = Value.float b t from r); cases e; rfl
  | ref a => cases (show u = Value.ref a from r); rfl
  | ty n => cases (show u = Value.type n from r); rfl
section
variable {P : Program} {w : World} {H H' : Hp} {h h' : Heap} {a C dx : Addr} {fs fs' : List (Str × V)}
theorem ins_get (hok : HOk P w H h) (e : H a = some (.ins C dx fs)) : ∃ mA, ObjM h a dx C mA ∧ (∀ f, RelO (fs.lookup f) (mA f)) ∧ PySem.Within mA (fs.map (·.1)) ∧ fs.length ≤ 1000 ∧ H dx = some (.own a) := by
  obtain ⟨d, z, ne, ob, mA, n, r, q⟩ := (show ObjOk P w H h a (.ins C dx fs) from hok a _ e)
  exact ⟨mA, ⟨ob, n, ne⟩, r, q, z, d⟩
end
structure Cls (K : PySem.W.Frag) (C : Addr) : Prop where
  pg : PySem.W.plainGet K C Str.empty = true
  hd : PySem.W.hasDictIn K C = true
  po : PySem.W.plainOver K C = true
  sa : PySem.W.findIn K (.ref C) "__setattr__" = some (some (.builtin "object.__setattr__"))
theorem Cls.get {K : PySem.W.Frag} {C : Addr} (c : Cls K C) (f : Str) : PySem.W.plainGet K C f = true := c.pg
def NoAttr (K : PySem.W.Frag) (C : Addr) (f : Str) : Prop := PySem.W.findIn K (.ref C) f = some none
theorem NoAttr.taker {K : PySem.W.Frag} {C : Addr} {f : Str} (n : NoAttr K C f) : PySem.W.takerIn K C f = some none := by
  unfold PySem.W.takerIn
  rw [show PySem.W.findIn K (.ref C) f = some none from n]
  rfl
structure Con (K : PySem.W.Frag) (C : Addr) (f : Str) (v : V) (u : Value) : Prop where
  at_ : PySem.W.findIn K (.ref C) f = some (some u)
  rel : RelV v u
  get : PySem.W.specialIn K u "__get__" = some none
  cp : PySem.W.copiedNames.contains f = false
structure Meth (K : PySem.W.Frag) (C : Addr) (m : Str) (f : Addr) : Prop where
  at_ : PySem.W.findIn K (.ref C) m = some (some (.ref f))
  fn : PySem.W.isFn K (.ref f) = true
  kp : PySem.W.keepIn K (.ref f) = true
section
variable {X : Cx} {pins : List (Addr × Obj)} {σ : St} {H : Hp} {s : Shared} {a C dx : Addr} {fs : List (Str × V)} {f : Str} {v : V} {A : Around} {E : Value → Shared → Prop}
theorem getattr_ok {b : Bool} {Q : Value → Shared → Prop} (I : Inv X pins σ H s) (e : H a = some (.ins C dx fs)) (c : Cls X.K C) (n : NoAttr X.K C f) (l : fs.lookup f = some v)
    (h : ∀ u s', Inv X pins σ H s' → RelV v u → Q u s') : wpAny (model X.prog X.w) A (getAttr (.ref a) f b) Q E s := by
  obtain ⟨mA, O, r, _, _, _⟩ := ins_get I.hok e
  obtain ⟨u, hu, ru⟩ := RelO.some_of (v := v) (o := mA f) (by rw [← l]; exact r f)
  exact get_map I.kIn O (c.get f) c.hd n hu (handed_of ru) (h u _ (I.tok _) ru)
theorem getmeth_ok {m : Str} {g : Addr} {pl : Sem Bool} {Q : Value × List Value → Shared → Prop} (I : Inv X pins σ H s) (e : H a = some (.ins C dx fs)) (c : Cls X.K C) (k : Meth X.K C m g) (l : fs.lookup m = none)
    (h : Q (.ref g, [.ref a]) s) : wpAny (model X.prog X.w) A (getMethod (.ref a) m pl) Q E s := by
  obtain ⟨mA, O, r, _, _, _⟩ := ins_get I.hok e
  have hn : mA m = none := RelO.none_of (by rw [← l]; exact r m)
  exact get_meth I.kIn O (c.get m) k.at_ k.fn hn h
theorem setattr_ok {y : V} {u : Value} {Q : Unit → Shared → Prop} (I : Inv X pins σ H s) (e : H a = some (.ins C dx fs)) (c : Cls X.K C) (n : NoAttr X.K C f) (hl : fs.length < 1000) (ry : RelV y u)
    (h : ∀ s', Inv X pins σ (upd H a (.ins C dx (putF f y fs))) s' → Q () s') : wpAny (model X.prog X.w) A (setAttr (.ref a) f u) Q E s := by
  obtain ⟨mA, O, r, wi, _, ho⟩ := ins_get I.hok e
  have hz : (fs.map (·.1)).length ≤ sizeLine := by rw [List.length_map, sizeLine_eq]; omega
  refine set_map I.kIn O c.sa c.po n.taker c.hd wi hz fun h' O' sb => h _ ?_
  have hd : ∃ o, h'.get? dx = some o := let ⟨o, _, _, e', _⟩ := O'.ns; ⟨o, e'⟩
  refine I.write (x := a) (e := dx) (by rw [e]; exact True.intro) (.inr ho) (fun b q hb z => (sb.2 b hb).trans z) hd ?_
  refine ⟨by rw [upd_ne O.ne]; exact ho, ?_, O.ne, O'.obj, _, O'.ns, fun g => ?_, fun g hg => ?_⟩
  · have := length_putF f y fs; omega
  · show RelO ((putF f y fs).lookup g) (if g = f then some u else mA g)
    rw [lookup_putF]
    by_cases q : g = f
    · rw [if_pos q, if_pos q]; exact ry
    · rw [if_neg q, if_neg q]; exact r g
  · by_cases q : g = f
    · rw [q]; exact (keys_putF f y fs).1
    · refine (keys_putF f y fs).2 g (wi g fun z => hg ?_)
      show (if g = f then some u else mA g) = none
      rw [if_neg q]; exact z
theorem Inv.made (I : Inv X pins σ H s) : Inv X pins σ (upd (upd H s.heap.objs.size (.own (s.heap.objs.size + 1))) (s.heap.objs.size + 1) (.ins C s.heap.objs.size []))
    { s with heap := (s.heap.push PySem.W.emptyDict).push (PySem.W.instObj C s.heap.objs.size) } := by
  have e1 : (s.heap.push PySem.W.emptyDict).get? s.heap.objs.size = some PySem.W.emptyDict := Heap.get?_push_size s.heap rfl
  have e2 : ((s.heap.push PySem.W.emptyDict).push (PySem.W.instObj C s.heap.objs.size)).get? (s.heap.objs.size + 1) = some (PySem.W.instObj C s.heap.objs.size) := by
    have := Heap.get?_push_size (s.heap.push PySem.W.emptyDict) (o := PySem.W.instObj C s.heap.objs.size) rfl
    rwa [Heap.size_push] at this
  have e3 : (s.heap.push PySem.W.emptyDict).Ns s.heap.objs.size (fun _ => none) := ⟨PySem.W.emptyDict, #[], _, e1, rfl, (fun e he => absurd he (by simp)), fun _ => rfl⟩
  have I1 := I.laid (a := s.heap.objs.size) (o := .own (s.heap.objs.size + 1)) (h' := s.heap.push PySem.W.emptyDict) (t' := s.toks) (fun b u q => Heap.get?_push_of_some _ q) (Nat.le_refl _) ⟨_, e1⟩
  refine I1.laid (a := s.heap.objs.size + 1) (o := .ins C s.heap.objs.size []) (t' := s.toks) (fun b u q => Heap.get?_push_of_some _ q) (Nat.le_of_eq (Heap.size_push _ _)) ?_
  have ne : s.heap.objs.size ≠ s.heap.objs.size + 1 := Nat.ne_of_lt (Nat.lt_succ_self _)
  refine ⟨by rw [upd_ne ne, upd_same], Nat.zero_le _, ne, e2, fun _ => none, (Heap.Ns1.of_empty e3).at fun o q => Heap.get?_push_of_some _ q, fun _ => True.intro, fun y hy => absurd rfl hy⟩
theorem attr_of {prog : Program} {w : World} {env : Env} {e : Expr} {f : Str} {pos : Pos} {s : Shared} {Q : Value → Shared → Prop} (hb : attributeBase e f env (eval e env) = eval e env)
    (h : wpAny (model prog w) A (eval e env) (fun o s₁ => wpAny (model prog w) A (getAttr o f true) Q E s₁) E s) : wpAny (model prog w) A (eval (.Attribute e f pos) env) Q E s :=
  Attribute_any_ h (by rw [arm_eval_Attribute, hb])
end
def tFld (K : PySem.W.Frag) (ta : TE) (f : Str) : TE := fun σ H Q => ta σ H fun x H1 => ∃ a C dx fs v, x = .ref a ∧ H1 a = some (.ins C dx fs) ∧ Cls K C ∧ NoAttr K C f ∧ fs.lookup f = some v ∧ Q v H1
def sFld (K : PySem.W.Frag) (ta tv : TE) (f : Str) : TS := fun D σ H => tv σ H fun y H1 => ta σ H1 fun x H2 => ∃ a C dx fs, x = .ref a ∧ H2 a = some (.ins C dx fs) ∧ Cls K C ∧ NoAttr K C f ∧ fs.length < 1000 ∧
  D.nx σ (upd H2 a (.ins C dx (putF f y fs)))
section
variable {X : Cx} {o e value : Expr} {f : Str} {pos pos' tpos : Pos} {ta tv : TE}
theorem pe_fld (he : PE X e ta) (hb : attributeBase e f X.env (eval e X.env) = eval e X.env) : PE X (.Attribute e f pos) (tFld X.K ta f) := by
  intro pins s σ H Q I h
  refine attr_of hb (thn (he pins s σ H _ I h) fun u s1 ⟨x, H1, I1, rx, a, C, dx, fs, v, ex, ea, c, n, l, q⟩ => ?_)
  subst ex
  obtain rfl : u = Value.ref a := rx
  exact getattr_ok I1 ea c n l fun u' s2 I2 ru => ⟨v, H1, I2, ru, q⟩
theorem ps_fld (ha : PE X o ta) (hv : PE X value tv) (hs : swapsWith value (some (.Attribute o f pos')) pos.line X.env = pure false) : PS X (.Assign [.Attribute o f pos'] value pos) (sFld X.K ta tv f) := by
  intro pins s σ H D I h
  refine plainObj_wpAny_Assign_Attribute (thn (hv pins s σ H _ I h) fun u s1 ⟨y, H1, I1, ry, q⟩ => thn (ha pins s1 σ H1 _ I1 q) fun ov s2 ⟨x, H2, I2, rx, a, C, dx, fs, ex, ea, c, n, l, q2⟩ => ?_) hs
  subst ex
  obtain rfl : ov = Value.ref a := rx
  exact setattr_ok I2 ea c n l ry fun s3 I3 => ⟨σ, _, I3, q2⟩
end
section
variable {X : Cx} {pins : List (Addr × Obj)} {σ : St} {H : Hp} {s : Shared} {A : Around} {E : Value → Shared → Prop} {Q : Value → Shared → Prop} {c : Value} {b : Bool}
inductive TyOf (K : PySem.W.Frag) (H : Hp) : V → Value → Prop where
  | non : TyOf K H .non (.type "NoneType")
  | bl (x : Bool) : TyOf K H (.bl x) (.type "bool")
  | int (i : Int) : TyOf K H (.int i) (.type "int")
  | str (x : Str) : TyOf K H (.str x) (.type "str")
  | flt (x : UInt64) : TyOf K H (.flt x) (.type "float")
  | lst {a : Addr} {xs : List V} (e : H a = some (.lst xs)) : TyOf K H (.ref a) (.type "list")
  | frz {a : Addr} {o : Obj} {xs : List V} (e : H a = some (.frz o (.lst xs))) : TyOf K H (.ref a) (.type "list")
  | tup {a : Addr} {xs : List V} (e : H a = some (.tup xs)) : TyOf K H (.ref a) (.type "tuple")
  | dK {a : Addr} {kvs : List (Key × V)} (e : H a = some (.dK kvs)) : TyOf K H (.ref a) (.type "dict")
  | dT {a : Addr} {kvs : List (List Key × V)} (e : H a = some (.dT kvs)) : TyOf K H (.ref a) (.type "dict")
  | ins {a C dx : Addr} {fs : List (Str × V)} (e : H a = some (.ins C dx fs)) (cl : Cls K C) (ha : PySem.W.findIn K (.ref C) "__class__" = some (some (.builtin "object.__class__")))
      (hn : PySem.W.specialIn K (.builtin "object.__class__") "__get__" = some (some (.builtin "getset_descriptor.__get__"))) (htk : PySem.W.takesIn K (.builtin "object.__class__") = some true)
      (hm : PySem.W.mroIn K C (.type "object") = some true) : TyOf K H (.ref a) (.ref C)
theorem isinst_ok {x : V} {u t : Value} (I : Inv X pins σ H s) (rx : RelV x u) (ty : TyOf X.K H x t) (e : PySem.W.kitOne X.K t c = some b) (h : ∀ tk, Q (.bool b) { s with toks := tk }) :
    wpAny (model X.prog X.w) A (call (.builtin "isinstance") [u, c]) Q E s := by
  cases ty with
  | non => cases (show u = Value.none from rx); exact PySem.W.kia_one PySem.W.kitx_none I.kIn True.intro e (fun z => nomatch z) h
  | bl y => cases (show u = Value.bool y from rx); exact PySem.W.kia_one PySem.W.kitx_bool I.kIn True.intro e (fun z => nomatch z) h
  | int i => obtain ⟨t, q⟩ := (show ∃ t, u = Value.int i t from rx); cases q; exact PySem.W.kia_one PySem.W.kitx_int I.kIn True.intro e (fun z => nomatch z) h
  | str y => obtain ⟨t, q⟩ := (show ∃ t, u = Value.str y t from rx); cases q; exact PySem.W.kia_one PySem.W.kitx_str I.kIn True.intro e (fun z => nomatch z) h
  | flt y => obtain ⟨t, q⟩ := (show ∃ t, u = Value.float y t from rx); cases q; exact PySem.W.kia_one PySem.W.kitx_float I.kIn True.intro e (fun z => nomatch z) h
  | @lst a xs ea =>
    cases (show u = Value.ref a from rx)
    obtain ⟨_, _, n, _, h1⟩ := (show ObjOk X.prog X.w H s.heap a (.lst xs) from I.hok a _ ea)
    exact PySem.W.kia_one PySem.W.kitx_list I.kIn ⟨_, h1, rfl⟩ e (fun z => nomatch z) h
  | @frz a ob xs ea =>
    cases (show u = Value.ref a from rx)
    obtain ⟨_, _, _, n, _, h1⟩ := (show ObjOk X.prog X.w H s.heap a (.frz ob (.lst xs)) from I.hok a _ ea)
    exact PySem.W.kia_one PySem.W.kitx_list I.kIn ⟨_, h1, rfl⟩ e (fun z => nomatch z) h
  | @tup a xs ea =>
    cases (show u = Value.ref a from rx)
    obtain ⟨_, ⟨_, _, p⟩, _⟩ := (show ObjOk X.prog X.w H s.heap a (.tup xs) from I.hok a _ ea)
    obtain ⟨o, h1, h2, _⟩ := p
    exact PySem.W.kia_one PySem.W.kitx_tuple I.kIn ⟨o, h1, h2⟩ e (fun z => nomatch z) h
  | @dK a kvs ea =>
    cases (show u = Value.ref a from rx)
    obtain ⟨_, _, vs, _, p⟩ := (show ObjOk X.prog X.w H s.heap a (.dK kvs) from I.hok a _ ea)
    obtain ⟨o, es, ep, h1, h2, _⟩ := p
    exact PySem.W.kia_one PySem.W.kitx_dict I.kIn ⟨o, h1, h2.1⟩ e (fun z => nomatch z) h
  | @dT a kvs ea =>
    cases (show u = Value.ref a from rx)
    obtain ⟨_, _, xs, _, o, es, ep, h1, h2, _⟩ := (show ObjOk X.prog X.w H s.heap a (.dT kvs) from I.hok a _ ea)
    exact PySem.W.kia_one PySem.W.kitx_dict I.kIn ⟨o, h1, h2.1⟩ e (fun z => nomatch z) h
  | @ins a C dx fs ea cl ha hn htk hm =>
    cases (show u = Value.ref a from rx)
    obtain ⟨mA, O, _⟩ := ins_get I.hok ea
    obtain ⟨od, J, _⟩ := O.look
    exact PySem.W.kia_one (PySem.W.kitx_own (cl.get _) cl.hd ha hn htk hm) I.kIn J e (fun z => nomatch z) h
end
end L2
namespace L2
open PySem PySem.Spec PyProof.Rows
structure Room (k : Nat) (A : Around) : Prop where
  hd : A.handled = none
  dp : A.depth + 3 * k + 5 < recursionLimit
  un : A.units + 16 * k + 200 < cLine
theorem Room.mono {j k : Nat} {A : Around} (r : Room k A) (h : j ≤ k) : Room j A := ⟨r.hd, by have := r.dp; omega, by have := r.un; omega⟩
theorem Room.deeper {k : Nat} {A : Around} (r : Room (k + 1) A) (env : Env) : Room k (A.deeper env) :=
  ⟨r.hd, by have := r.dp; show A.depth + 1 + 3 * k + 5 < _; omega, by have := r.un; show A.units + 3 + 16 * k + 200 < _; omega⟩
theorem Room.in1 {k : Nat} {A : Around} (r : Room (k + 1) A) : Room k A.in1 :=
  ⟨r.hd, by have := r.dp; show A.depth + 3 * k + 5 < _; omega, by have := r.un; show A.units + 1 + 16 * k + 200 < _; omega⟩
theorem make_depth {A : Around} {C : Addr} {us : List Value} {kw : List (Str × Value)} : (A.under (.builtin "type.__call__" ⟨.ref C :: us, kw⟩)).depth = A.depth + 1 := by
  first | rfl | simp [Around.under, Code.weight, Code.isCreation, Code.isGuard, Code.isCaller, Code.frames, Code.isFrame, guardIds]
theorem make_units {A : Around} {C : Addr} {us : List Value} {kw : List (Str × Value)} : (A.under (.builtin "type.__call__" ⟨.ref C :: us, kw⟩)).units = A.units + 1 := by
  first | rfl | simp [Around.under, Code.cUnits, Code.frames, Code.isFrame]
theorem Room.make {k : Nat} {A : Around} (r : Room (k + 1) A) (C : Addr) (us : List Value) (kw : List (Str × Value)) : Room k (A.under (.builtin "type.__call__" ⟨.ref C :: us, kw⟩)) :=
  ⟨r.hd, by have := r.dp; rw [make_depth]; omega, by have := r.un; rw [make_units]; omega⟩
theorem Room.depth {k : Nat} {A : Around} (r : Room k A) : A.depth < recursionLimit := by have := r.dp; omega
theorem Room.units {k : Nat} {A : Around} (r : Room k A) : A.units + 64 < cLine := by have := r.un; omega
def tNil : TA := fun _ H Q => Q [] H
def tCons (ta : TE) (tr : TA) : TA := fun σ H Q => ta σ H fun x H1 => tr σ H1 fun xs H2 => Q (x :: xs) H2
section
variable {X : Cx} {e : Expr} {es : List Expr} {te : TE} {t : TA} {pos : Pos}
theorem pa_nil : PA X [] tNil := fun _ _ _ _ H Q I h => Calls.spliced_nil ⟨[], H, I, .nil, h⟩
theorem pa_cons (ha : PE X e te) (hr : PA X es t) (hs : starEach (e :: es) X.env = (false, eval e X.env) :: starEach es X.env := by rfl) : PA X (e :: es) (tCons te t) := by
  intro pos pins s σ H Q I h
  rw [hs]
  show wpAny _ _ (spliced ((false, eval e X.env) :: backTo pos (starEach es X.env))) _ _ s
  refine Calls.spliced_cons (thn (ha pins s σ H _ I h) fun u s1 ⟨x, H1, I1, r1, q1⟩ => ?_)
  exact thn (hr pos pins s1 σ H1 _ I1 q1) fun us s2 ⟨xs, H2, I2, r2, q2⟩ => ⟨x :: xs, H2, I2, .cons r1 r2, q2⟩
def tTup (t : TA) : TE := fun σ H Q => t σ H fun xs H1 => xs.length ≤ sizeLine ∧ ∀ p, H1 p = none → Q (.ref p) (upd H1 p (.tup xs))
def tLst (t : TA) : TE := fun σ H Q => t σ H fun xs H1 => xs.length ≤ sizeLine ∧ ∀ p, H1 p = none → Q (.ref p) (upd H1 p (.lst xs))
theorem pe_tup {x1} (h : PA X es t) : PE X (.Tuple es x1 pos) (tTup t) := by
  intro pins s σ H Q I hq
  refine wpAny_Tuple_spliced (thn (h pos pins s σ H _ I hq) fun us s1 ⟨xs, H1, I1, r, z, q⟩ => ⟨by rw [← r.length]; exact z, ?_⟩)
  have hf : H1 s1.heap.objs.size = none := I1.hok.fresh (Nat.le_refl _)
  refine ⟨.ref s1.heap.objs.size, upd H1 s1.heap.objs.size (.tup xs), I1.laid (t' := s1.toks) (fun b u e => Heap.get?_push_of_some _ e) (Nat.le_refl _) ?_, rfl, q _ hf⟩
  exact ⟨z, ⟨us, r, ⟨_, Heap.get?_push_size _ rfl, rfl, _, rfl⟩⟩, _, Heap.get?_push_size _ rfl, rfl⟩
theorem pe_lst (h : PA X es t) : PE X (.List es pos) (tLst t) := by
  intro pins s σ H Q I hq
  refine wpAny_List_spliced (thn (h pos pins s σ H _ I hq) fun us s1 ⟨xs, H1, I1, r, z, q⟩ => ⟨by rw [← r.length]; exact z, ?_⟩)
  have hf : H1 s1.heap.objs.size = none := I1.hok.fresh (Nat.le_refl _)
  refine ⟨.ref s1.heap.objs.size, upd H1 s1.heap.objs.size (.lst xs), I1.laid (t' := s1.toks) (fun b u e => Heap.get?_push_of_some _ e) (Nat.le_refl _) ?_, rfl, q _ hf⟩
  exact ⟨z, us, 0, r, Heap.get?_push_size _ rfl⟩
end
abbrev Sp := List V → Hp → VK → XK → Prop
abbrev CXT := List Env → Hp → Shared → XK → Value → Shared → Prop
structure Env0 (P : Program) (w : World) (K : PySem.W.Frag) (mg : Str → Option Value) (base : Heap) (A : Around) (outer : List Env) (s : Shared) (H : Hp) : Prop where
  frames : A.frames = some outer
  mod : Mod K mg base
  bs : ∀ b o, base.get? b = some o → s.heap.get? b = some o ∧ H b = none
  bsz : base.objs.size ≤ s.heap.objs.size
  funs : s.heap.FunFrames base outer
  frf : ∀ b ∈ frs outer, H b = none
  hok : HOk P w H s.heap
  bare : AllBare s.gens
def CE (outer : List Env) (P : Program) (w : World) (H : Hp) (s : Shared) (Q : VK) (u : Value) (s' : Shared) : Prop :=
  ∃ v H', s'.os = s.os ∧ AllBare s'.gens ∧ Un (frs outer) [] H H' s.heap s'.heap ∧ HOk P w H' s'.heap ∧ RelV v u ∧ Q v H'
def CR (CX : CXT) (outer : List Env) (P : Program) (w : World) (H : Hp) (s : Shared) (Q : VK) (E : XK) (r : Result) (s' : Shared) : Prop :=
  match r with
  | .ok (.ret u) => CE outer P w H s Q u s'
  | .ok _ => False
  | .error e => CX outer H s E e s'
structure FnOk (P : Program) (w : World) (K : PySem.W.Frag) (mg : Str → Option Value) (base : Heap) (CX : CXT) (k : Nat) (f : Addr) (fd : FuncData) (ps : List Str) (sp : Sp) : Prop where
  len : ∀ vs H Q E, sp vs H Q E → vs.length = ps.length
  run : ∀ (A : Around) (outer : List Env) (s : Shared) (H : Hp) (args : Args) (us : List Value) (vs : List V) (Q : VK) (E : XK), Room k A → Env0 P w K mg base A outer s H → BindsTo s fd args (ps.zip us) → Vals vs us → sp vs H Q E →
    codeAny (model P w) A (.call (.ref f) args) (CR CX outer P w H s Q E) s
theorem FnOk.mono {P : Program} {w : World} {K : PySem.W.Frag} {mg : Str → Option Value} {base : Heap} {CX : CXT} {j k : Nat} {f : Addr} {fd : FuncData} {ps : List Str} {sp : Sp} (F : FnOk P w K mg base CX j f fd ps sp) (h : j ≤ k) :
    FnOk P w K mg base CX k f fd ps sp := ⟨F.len, fun A outer s H args us vs Q E hr => F.run A outer s H args us vs Q E (hr.mono h)⟩
theorem FnOk.imp {P : Program} {w : World} {K : PySem.W.Frag} {mg : Str → Option Value} {base : Heap} {CX : CXT} {k : Nat} {f : Addr} {fd : FuncData} {ps : List Str} {sp sp' : Sp} (F : FnOk P w K mg base CX k f fd ps sp)
    (h : ∀ vs H Q E, sp' vs H Q E → sp vs H Q E) : FnOk P w K mg base CX k f fd ps sp' :=
  ⟨fun vs H Q E q => F.len vs H Q E (h _ _ _ _ q), fun A outer s H args us vs Q E hr he hb hv hs => F.run A outer s H args us vs Q E hr he hb hv (h _ _ _ _ hs)⟩
theorem Env0.make {P : Program} {w : World} {K : PySem.W.Frag} {mg : Str → Option Value} {base : Heap} {A : Around} {outer : List Env} {s : Shared} {H : Hp} (e : Env0 P w K mg base A outer s H) (C : Addr) (us : List Value) (kw : List (Str × Value)) :
    Env0 P w K mg base (A.under (.builtin "type.__call__" ⟨.ref C :: us, kw⟩)) outer s H := ⟨by first | exact e.frames | (simpa [Around.under, Code.envs, Code.isFrame, pushEnvs] using e.frames), e.mod, e.bs, e.bsz, e.funs, e.frf, e.hok, e.bare⟩
theorem Env0.in1 {P : Program} {w : World} {K : PySem.W.Frag} {mg : Str → Option Value} {base : Heap} {A : Around} {outer : List Env} {s : Shared} {H : Hp} (e : Env0 P w K mg base A outer s H) :
    Env0 P w K mg base A.in1 outer s H := ⟨e.frames, e.mod, e.bs, e.bsz, e.funs, e.frf, e.hok, e.bare⟩
section
variable {X : Cx} {pins : List (Addr × Obj)} {σ : St} {H : Hp} {s s' : Shared}
theorem Inv.env0 (I : Inv X pins σ H s) : Env0 X.prog X.w X.K X.mg X.base X.A X.stack s H :=
  ⟨I.ok.frames, I.ok.mod, I.bs, Nat.le_trans I.ok.bsz I.sz, I.stack, I.stkFree, I.hok, I.bare⟩
theorem Inv.after {Q : VK} {u : Value} (I : Inv X pins σ H s) (h : CE X.stack X.prog X.w H s Q u s') : EP X pins σ Q u s' := by
  obtain ⟨v, H', os, bare, un, hok, r, q⟩ := h
  obtain ⟨hh, g, d, t, os'⟩ := s'
  obtain rfl : os' = s.os := os
  exact ⟨v, H', I.call (h' := hh) (g' := g) (d' := d) (t' := t) (ch := []) un hok bare (fun b z => absurd z (by simp)), r, q⟩
end
def tCall (sp : Sp) (dvs : List V) (E : XK) (t : TA) : TE := fun σ H Q => t σ H fun vs H1 => sp (vs ++ dvs) H1 Q E
def tMeth (C : Addr) (m : Str) (sp : Sp) (dvs : List V) (E : XK) (ta : TE) (t : TA) : TE := fun σ H Q => ta σ H fun x H1 => ∃ a dx fs, x = .ref a ∧ H1 a = some (.ins C dx fs) ∧ fs.lookup m = none ∧
  t σ H1 fun vs H2 => sp (x :: (vs ++ dvs)) H2 Q E
def tMake (C : Addr) (sp : Sp) (dvs : List V) (E : XK) (t : TA) : TE := fun σ H Q => t σ H fun vs H1 => ∀ x dx, H1 x = none → H1 dx = none → dx ≠ x →
  sp (.ref x :: (vs ++ dvs)) (upd (upd H1 dx (.own x)) x (.ins C dx [])) (fun v H2 => v = .non ∧ Q (.ref x) H2) E
def Binds (K : PySem.W.Frag) (fd : FuncData) (ps : List Str) (ds : List Value) : Prop :=
  ∀ (s : Shared) (us : List Value), K.In s.heap → (us ++ ds).length = ps.length → BindsTo s fd ⟨us, []⟩ (ps.zip (us ++ ds))
theorem Binds.all {K : PySem.W.Frag} {fd : FuncData} {ps : List Str} (h : ∀ us : List Value, us.length = ps.length → bindArgs fd ⟨us, []⟩ = pure (ps.zip us)) : Binds K fd ps [] := fun s us _ hl => by
  rw [List.append_nil] at hl ⊢
  exact .of_eq (h us hl)
def Passes (CX : CXT) (X : Cx) (E : XK) : Prop := ∀ (pins : List (Addr × Obj)) (σ : St) (H : Hp) (s : Shared) (e : Value) (s' : Shared), Inv X pins σ H s → CX X.stack H s E e s' → X.xe e s'
section
variable {X : Cx} {CX : CXT} {k : Nat} {f C : Addr} {fd : FuncData} {ps : List Str} {sp : Sp} {dvs : List V} {ds : List Value} {E : XK} {x m : Str} {p pos apos : Pos} {e o : Expr} {es : List Expr} {ta : TE} {t : TA}
theorem run_fn {pins : List (Addr × Obj)} {σ : St} {H : Hp} {s : Shared} {Q : VK} {us : List Value} {vs : List V} (F : FnOk X.prog X.w X.K X.mg X.base CX k f fd ps sp) (hr : Room k X.A) (hb : Binds X.K fd ps ds) (hd : Vals dvs ds) (hx : Passes CX X E)
    (I : Inv X pins σ H s) (r : Vals vs us) (h : sp (vs ++ dvs) H Q E) : wpAny (model X.prog X.w) X.A (call (.ref f) us) (EP X pins σ Q) X.xe s := by
  have r2 : Vals (vs ++ dvs) (us ++ ds) := r.append hd
  have hl : (us ++ ds).length = ps.length := by rw [← r2.length]; exact F.len _ _ _ _ h
  refine wpAny_call (codeAny_mono (F.run X.A X.stack s H ⟨us, []⟩ (us ++ ds) (vs ++ dvs) Q E hr I.env0 (hb s us I.kIn hl) r2 h) fun r s' hq => ?_)
  cases r with
  | error e => exact hx pins σ H s e s' I hq
  | ok fl =>
    cases fl with
    | ret u => exact I.after hq
    | next => exact False.elim hq
    | brk => exact False.elim hq
    | cont => exact False.elim hq
theorem pe_call (F : FnOk X.prog X.w X.K X.mg X.base CX k f fd ps sp) (hr : Room k X.A) (hg : Gl X x) (hm : X.mg x = some (.ref f)) (hk : PySem.W.keepIn X.K (.ref f) = true) (hb : Binds X.K fd ps ds) (hd : Vals dvs ds) (hx : Passes CX X E)
    (ha : PA X (e :: es) t) (hdb : (x == ("__debug__" : Str)) = false := by decide) (he : starEach (e :: es) X.env = (false, eval e X.env) :: starEach es X.env := by rfl) (hpl : (backTo pos (starEach es X.env)).any (·.1) = false := by rfl) :
    PE X (.Call (.Name x p) (e :: es) [] pos) (tCall sp dvs E t) := by
  intro pins s σ H Q I h
  refine wpAny_Call_Name_kw (ld_glob I hg hm ?_ hdb)
  refine PySem.W.callWith_K (h₀ := X.base) I.ok.mod.kin hk (thn (ha pos pins s σ H _ I h) fun us s1 ⟨vs, H1, I1, r, q⟩ => ⟨I1.kIn, ?_⟩) he hpl
  exact run_fn F hr hb hd hx I1 r q
theorem pe_meth {pl : Sem Bool} (he : PE X o ta) (c : Cls X.K C) (hm : Meth X.K C m f) (F : FnOk X.prog X.w X.K X.mg X.base CX k f fd ps sp) (hr : Room k X.A) (hb : Binds X.K fd ps ds) (hd : Vals dvs ds) (hx : Passes CX X E) (ha : PA X (e :: es) t)
    (hst : starEach (e :: es) X.env = (false, eval e X.env) :: starEach es X.env := by rfl) (hpl : (backTo pos (starEach es X.env)).any (·.1) = false := by rfl)
    (ht : eval (.Call (.Attribute o m apos) (e :: es) [] pos) X.env = (do
      let ov ← eval o X.env
      standAt apos.atName
      let (f, first) ← holding [ov] (getMethod ov m pl)
      callWith pos f first (backTo pos (starEach (e :: es) X.env)) (backToKw pos (keywordEach [] X.env))) := by rfl) :
    PE X (.Call (.Attribute o m apos) (e :: es) [] pos) (tMeth C m sp dvs E ta t) := by
  intro pins s σ H Q I h
  refine PySem.W.methodCall_KW (pl := pl) (thn (he pins s σ H _ I h) fun u s1 ⟨x, H1, I1, rx, a, dx, fs, ex, ea, l, q⟩ => ?_) ht
  subst ex
  obtain rfl : u = Value.ref a := rx
  refine getmeth_ok I1 ea c hm l ?_
  refine PySem.W.callWith_K (first := [.ref a]) (h₀ := X.base) I.ok.mod.kin hm.kp (thn (ha pos pins s1 σ H1 _ I1 q) fun us s2 ⟨vs, H2, I2, r, q2⟩ => ⟨I2.kIn, ?_⟩) hst hpl
  exact run_fn (us := .ref a :: us) (vs := .ref a :: vs) F hr hb hd hx I2 (.cons rfl r) q2
structure Mk (K : PySem.W.Frag) (C f : Addr) : Prop where
  makes : PySem.W.makesIn K C = true
  init : PySem.W.findIn K (.ref C) "__init__" = some (some (.ref f))
  fn : PySem.W.isFn K (.ref f) = true
  kp : PySem.W.keepIn K (.ref C) = true
theorem run_make {pins : List (Addr × Obj)} {σ : St} {H : Hp} {s : Shared} {Q : VK} {us : List Value} {vs : List V} (M : Mk X.K C f) (F : FnOk X.prog X.w X.K X.mg X.base CX k f fd ps sp) (hr : Room (k + 1) X.A) (hb : Binds X.K fd ps ds) (hd : Vals dvs ds)
    (hx : Passes CX X E) (I : Inv X pins σ H s) (r : Vals vs us)
    (h : ∀ x dx, H x = none → H dx = none → dx ≠ x → sp (.ref x :: (vs ++ dvs)) (upd (upd H dx (.own x)) x (.ins C dx [])) (fun v H2 => v = .non ∧ Q (.ref x) H2) E) :
    wpAny (model X.prog X.w) X.A (call (.ref C) us) (EP X pins σ Q) X.xe s := by
  have hq := h (s.heap.objs.size + 1) s.heap.objs.size (I.hok.fresh (Nat.le_succ _)) (I.hok.fresh (Nat.le_refl _)) (Nat.ne_of_lt (Nat.lt_succ_self _))
  have I2 := Inv.made (C := C) I
  have r2 : Vals (V.ref (s.heap.objs.size + 1) :: (vs ++ dvs)) (Value.ref (s.heap.objs.size + 1) :: (us ++ ds)) := .cons rfl (r.append hd)
  have hl : (Value.ref (s.heap.objs.size + 1) :: us ++ ds).length = ps.length := by
    have e := r2.length
    rw [F.len _ _ _ _ hq] at e
    exact e.symm
  refine wpAny_call (make_map (f := f) I.kIn M.makes M.init (beq_iff_eq.mp M.fn) (codeAny_mono (F.run _ X.stack _ _ ⟨Value.ref (s.heap.objs.size + 1) :: us, []⟩ (Value.ref (s.heap.objs.size + 1) :: (us ++ ds)) _ _ E (hr.make C us [])
    (I2.env0.make C us []) (hb _ (Value.ref (s.heap.objs.size + 1) :: us) I2.kIn hl) r2 hq) fun r s' hq' => ?_))
  cases r with
  | error e => exact hx pins σ _ _ e s' I2 hq'
  | ok fl =>
    cases fl with
    | ret u =>
      obtain ⟨v, H', I3, rv, ev, q3⟩ := I2.after hq'
      subst ev
      exact ⟨rv, ⟨V.ref (s.heap.objs.size + 1), H', I3, rfl, q3⟩⟩
    | next => exact False.elim hq'
    | brk => exact False.elim hq'
    | cont => exact False.elim hq'
theorem pe_make0 (M : Mk X.K C f) (F : FnOk X.prog X.w X.K X.mg X.base CX k f fd ps sp) (hr : Room (k + 1) X.A) (hg : Gl X x) (hm : X.mg x = some (.ref C)) (hb : Binds X.K fd ps ds) (hd : Vals dvs ds) (hx : Passes CX X E)
    (hdb : (x == ("__debug__" : Str)) = false := by decide) : PE X (.Call (.Name x p) [] [] pos) (tMake C sp dvs E tNil) := by
  intro pins s σ H Q I h
  refine wpAny_Call_Name_kw (ld_glob I hg hm ?_ hdb)
  exact PySem.W.callWith_K0 I.kIn M.kp (run_make (us := []) M F hr hb hd hx I .nil h)
end
def PK (X : Cx) (kws : List Keyword) (t : TA) : Prop :=
  ∀ (pos : Pos) (pins : List (Addr × Obj)) (s : Shared) (σ : St) (H : Hp) (Q : List V → Hp → Prop), Inv X pins σ H s → t σ H Q → wpAny (model X.prog X.w) X.A (evalAll ((backToKw pos (keywordEach kws X.env)).map (·.2))) (AP X pins σ Q) X.xe s
section
variable {X : Cx} {CX : CXT} {k : Nat} {f C : Addr} {fd : FuncData} {ps ks : List Str} {sp : Sp} {E : XK} {x m : Str} {p pos apos kpos : Pos} {e o : Expr} {es : List Expr} {kws : List Keyword} {te ta : TE} {t tk : TA} {nm : Option Str}
theorem pk_nil : PK X [] tNil := fun _ _ _ _ H Q I h => wpAny_evalAll_nil ⟨[], H, I, .nil, h⟩
theorem pk_cons (ha : PE X e te) (hr : PK X kws t) : PK X (⟨nm, e, kpos⟩ :: kws) (tCons te t) := by
  intro pos pins s σ H Q I h
  show wpAny _ _ (evalAll ((do let v ← eval e X.env; standAt pos; pure v) :: (backToKw pos (keywordEach kws X.env)).map (·.2))) _ _ s
  refine wpAny_evalAll_cons (wpAny_bind (thn (ha pins s σ H _ I h) fun u s1 ⟨x, H1, I1, r1, q1⟩ => wpAny_bind (wpAny_standAt (wpAny_pure ?_))))
  exact thn (hr pos pins s1 σ H1 _ I1 q1) fun us s2 ⟨xs, H2, I2, r2, q2⟩ => ⟨x :: xs, H2, I2, .cons r1 r2, q2⟩
structure KBinds (K : PySem.W.Frag) (fd : FuncData) (ps ks : List Str) (g : List Value → List Value → List Value) (gV : List V → List V → List V) : Prop where
  to : ∀ (s : Shared) (us ws : List Value), K.In s.heap → (g us ws).length = ps.length → BindsTo s fd ⟨us, ks.zip ws⟩ (ps.zip (g us ws))
  rel : ∀ {vs : List V} {us : List Value} {zs : List V} {ws : List Value}, Vals vs us → Vals zs ws → Vals (gV vs zs) (g us ws)
variable {g : List Value → List Value → List Value} {gV : List V → List V → List V}
end
structure FnScope (N P : List Str) (sc : Scope) : Prop where
  kind : sc.kind = .function
  co : sc.isCoroutine = false
  gen : sc.isGenerator = false
  nd : N.Nodup
  pre : N.take P.length = P
  par : ∀ x ∈ P, sc.names.lookup x = some .local ∨ sc.names.lookup x = some .cell
  nofree : ∀ y ∈ sc.names, y.2 ≠ .free
theorem bindL_out {kindOf : Str → Option NameKind} {x : Str} : ∀ {binds : List (Str × Value)} {m : Str → Option Value}, (∀ v, (x, v) ∉ binds) → bindL kindOf binds m x = m x
  | [], _, _ => rfl
  | (n, v) :: r, m, h => by
    unfold bindL
    rw [bindL_out fun w hw => h w (List.mem_cons_of_mem _ hw)]
    split
    · have : x ≠ n := by rintro rfl; exact h v List.mem_cons_self
      simp [this]
    · rfl
theorem bindC_out {kindOf : Str → Option NameKind} {x : Str} : ∀ {binds : List (Str × Value)} {m : Str → Option Value}, (∀ v, (x, v) ∉ binds) → bindC kindOf binds m x = m x
  | [], _, _ => rfl
  | (n, v) :: r, m, h => by
    unfold bindC
    rw [bindC_out fun w hw => h w (List.mem_cons_of_mem _ hw)]
    split
    · rfl
    · have : x ≠ n := by rintro rfl; exact h v List.mem_cons_self
      simp [this]
theorem bindL_get {kindOf : Str → Option NameKind} {x : Str} {v : Value} : ∀ {P : List Str} {vs : List Value} {i : Nat} {m : Str → Option Value}, P.Nodup → P[i]? = some x → vs[i]? = some v → kindOf x = some .local →
    bindL kindOf (P.zip vs) m x = some v
  | [], _, _, _, _, h, _, _ => by simp at h
  | _ :: _, [], _, _, _, _, h, _ => by simp at h
  | p :: P, w :: vs, 0, m, nd, h1, h2, hk => by
    simp at h1 h2; subst h1; subst h2
    show bindL kindOf ((p, w) :: P.zip vs) m p = _
    unfold bindL
    rw [bindL_out fun v hv => (List.nodup_cons.mp nd).1 (List.of_mem_zip hv).1, if_pos hk]
    simp
  | p :: P, w :: vs, i + 1, m, nd, h1, h2, hk => by
    show bindL kindOf ((p, w) :: P.zip vs) m x = _
    unfold bindL
    exact bindL_get (i := i) (List.nodup_cons.mp nd).2 (by simpa using h1) (by simpa using h2) hk
theorem bindC_get {kindOf : Str → Option NameKind} {x : Str} {v : Value} : ∀ {P : List Str} {vs : List Value} {i : Nat} {m : Str → Option Value}, P.Nodup → P[i]? = some x → vs[i]? = some v → kindOf x ≠ some .local →
    bindC kindOf (P.zip vs) m x = some v
  | [], _, _, _, _, h, _, _ => by simp at h
  | _ :: _, [], _, _, _, _, h, _ => by simp at h
  | p :: P, w :: vs, 0, m, nd, h1, h2, hk => by
    simp at h1 h2; subst h1; subst h2
    show bindC kindOf ((p, w) :: P.zip vs) m p = _
    unfold bindC
    rw [bindC_out fun v hv => (List.nodup_cons.mp nd).1 (List.of_mem_zip hv).1, if_neg hk]
    simp
  | p :: P, w :: vs, i + 1, m, nd, h1, h2, hk => by
    show bindC kindOf ((p, w) :: P.zip vs) m x = _
    unfold bindC
    exact bindC_get (i := i) (List.nodup_cons.mp nd).2 (by simpa using h1) (by simpa using h2) hk
def start (N : List Str) (vs : List V) : St := vs.map some ++ List.replicate (N.length - vs.length) none
def cxOf (CX : CXT) (P : Program) (w : World) (K : PySem.W.Frag) (mg : Str → Option Value) (base : Heap) (N : List Str) (qual : Str) (scope : Scope) (f : Addr) (cd : Value) (A : Around) (outer : List Env) (s : Shared) (H : Hp) (E : XK) : Cx where
  prog := P
  w := w
  K := K
  mg := mg
  base := base
  A := A.deeper (envOfC qual scope s.heap.objs.size f cd)
  N := N
  s₀ := s
  H₀ := H
  env := envOfC qual scope s.heap.objs.size f cd
  outer := outer
  stack := envOfC qual scope s.heap.objs.size f cd :: outer
  ex := []
  calm := true
  fn := fun _ => true
  pn := []
  xe := fun e s' => wpAny (model P w) (A.deeper (envOfC qual scope s.heap.objs.size f cd)) (leaving (envOfC qual scope s.heap.objs.size f cd) e) (fun _ s'' => CX outer H s E e s'') (fun e' s'' => CX outer H s E e' s'') s'
theorem cell_has {sc : Scope} {n : Nat} {x : Str} (h : sc.names.lookup x = some .cell) : ∃ c, (cellsFrom n sc.names []).lookup x = some c := by
  have q := PySem.W.cellsFrom_some sc.names n [] (.inl h)
  exact Option.isSome_iff_exists.mp q
theorem inv_start {CX : CXT} {P : Program} {w : World} {K : PySem.W.Frag} {mg : Str → Option Value} {base : Heap} {N ps : List Str} {qual : Str} {scope : Scope} {f : Addr} {cd : Value} {A : Around} {outer : List Env} {s s1 : Shared} {H : Hp} {E : XK} {us : List Value} {vs : List V}
    (S : FnScope N ps scope) (hd : A.handled = none) (e0 : Env0 P w K mg base A outer s H) (hl : vs.length = ps.length) (r : Vals vs us)
    (x : InCallC s s.heap.objs.size (bindL (envOfC qual scope s.heap.objs.size f cd).kindOf (ps.zip us) fun _ => none) (cellsFrom (s.heap.objs.size + 1) scope.names []) (bindC (envOfC qual scope s.heap.objs.size f cd).kindOf (ps.zip us) fun _ => none) s1) :
    Inv (cxOf CX P w K mg base N qual scope f cd A outer s H E) [] (start N vs) H s1 := by
  have hpl : ps.length ≤ N.length := by have := congrArg List.length S.pre; rw [List.length_take] at this; omega
  obtain ⟨h1, tk, rfl, hk⟩ := x.done
  have noA : ∀ b : Addr, b ∉ (cxOf CX P w K mg base N qual scope f cd A outer s H E).ex := fun b z => absurd (show b ∈ ([] : List Addr) from z) (by simp)
  refine ⟨⟨e0.mod, S.kind, rfl, rfl, Nat.le_refl _, fun y z c h1 h2 => ?_, fun y hy => ?_, fun y c _ h => ?_, fun _ => hd, Around.frames_deeper e0.frames, .inr ⟨rfl, rfl⟩, fun b z => absurd z (noA b), e0.bs, e0.bsz, fun b _ _ => noA b, fun b z => absurd z (noA b), e0.funs, e0.frf⟩,
    rfl, e0.bare, Un.kept hk, ⟨_, x.toInCall.ns, fun i y v h1 h2 h3 => ?_⟩, fun y c h => ⟨_, x.cell y c h⟩, e0.hok.fresh (Nat.le_refl _), fun y c h => ?_, fun p hp => absurd (show p ∈ ([] : List (Addr × Obj)) from hp) (by simp), e0.hok.kept hk, ?_⟩
  · exact name_of_addr x.apart (PySem.mem_of_lookup h1) (PySem.mem_of_lookup h2)
  · have hy : scope.names.lookup y = some .cell ∨ scope.names.lookup y = some .free := hy
    rcases hy with hy | hy
    · exact cell_has hy
    · exact absurd rfl (S.nofree _ (PySem.mem_of_lookup hy))
  · exact Nat.le_of_lt (x.above y c (PySem.mem_of_lookup h))
  · have hi : i < vs.length := by
      unfold start at h2
      by_cases hi : i < vs.length
      · exact hi
      · rw [List.getElem?_append_right (by simpa using hi)] at h2
        rw [List.getElem?_replicate] at h2
        split at h2 <;> cases h2
    have ha : vs[i]? = some v := by
      unfold start at h2
      rw [List.getElem?_append_left (by simpa using hi), List.getElem?_map] at h2
      cases e : vs[i]? with
      | none => rw [e] at h2; cases h2
      | some a => rw [e] at h2; cases h2; rfl
    obtain ⟨u, hu, rv⟩ := r.get ha
    have hp : ps[i]? = some y := by
      rw [← S.pre, List.getElem?_take_of_lt (by omega)]; exact h1
    have ndP : ps.Nodup := by rw [← S.pre]; exact S.nd.sublist (List.take_sublist _ _)
    refine ⟨u, rv, ?_⟩
    rcases S.par y (List.mem_of_getElem? hp) with k | k
    · exact .inl ⟨k, bindL_get ndP hp hu k⟩
    · obtain ⟨c, e⟩ := cell_has (n := s.heap.objs.size + 1) k
      refine .inr ⟨.inl k, c, e, ?_⟩
      have q := x.cell y c e
      rw [bindC_get ndP hp hu (by show scope.names.lookup y ≠ _; rw [k]; decide)] at q
      exact q
  · exact e0.hok.fresh (Nat.le_of_lt (x.above y c (PySem.mem_of_lookup h)))
  · unfold start
    show _ = N.length
    rw [List.length_append, List.length_map, List.length_replicate]
    omega
theorem fn_of {CX : CXT} {P : Program} {w : World} {K : PySem.W.Frag} {mg : Str → Option Value} {base : Heap} {k : Nat} {f : Addr} {name qual : Str} {params : Arguments} {body : List Stmt} {scope : Scope} {dV kV doc pm cdv ct oc : Value} {an od : Option Addr}
    {osl : Array (Option Value)} {N ps : List Str} {sp : Sp} (lk : K.lookup f = some ⟨oc, od, .func (PySem.W.fnOf name qual params body scope dV kV doc pm an cdv ct), osl⟩) (hcd : PySem.W.codeIn K cdv qual = true) (S : FnScope N ps scope)
    (len : ∀ vs H Q E, sp vs H Q E → vs.length = ps.length)
    (hbody : ∀ (A : Around) (outer : List Env) (s : Shared) (H : Hp) (vs : List V) (Q : VK) (E : XK), Room k (A.deeper (envOfC qual scope s.heap.objs.size f cdv)) → sp vs H Q E →
      ∃ t, PSs (cxOf CX P w K mg base N qual scope f cdv A outer s H E) body t ∧ t { nx := fun _ H' => Q .non H', rt := Q } (start N vs) H) :
    FnOk P w K mg base CX (k + 1) f (PySem.W.fnOf name qual params body scope dV kV doc pm an cdv ct) ps sp := by
  refine ⟨len, fun A outer s H args us vs Q E hr e0 hb r hsp => ?_⟩
  have hl := len _ _ _ _ hsp
  have KX : K.In s.heap := e0.mod.kin.keeps fun b o e => (e0.bs b o e).1
  have lim : s.heap.NoLimit := e0.mod.nolimit.keeps fun b o e => (e0.bs b o e).1
  have hkind : ∀ y ∈ ps.zip us, scope.names.lookup y.1 = some .local ∨ (scope.names.lookup y.1 = some .cell ∧ ((cellsFrom (s.heap.objs.size + 1) scope.names []).lookup y.1).isSome = true) := fun ⟨n, v⟩ hy => by
    rcases S.par n (List.of_mem_zip hy).1 with q | q
    · exact .inl q
    · exact .inr ⟨q, PySem.W.cellsFrom_some _ _ _ (.inl q)⟩
  refine codeAny_call_function hr.depth (KX _ _ lk) rfl S.co S.gen rfl (PySem.W.codeRec_of KX hcd) (hb _ _ _ _ ?_)
  refine wpAny_newFunctionEnv_cells S.kind hkind fun env he s1 x => ?_
  subst he
  refine ⟨lim.keeps x.toInCall.keep, codeAny_func ?_⟩
  obtain ⟨t, ht, hq⟩ := hbody A outer s H vs Q E (hr.deeper _) hsp
  have I : Inv (cxOf CX P w K mg base N qual scope f cdv A outer s H E) [] (start N vs) H s1 := inv_start S hr.hd e0 hl r x
  refine wpAny_mono (ht [] s1 (start N vs) H _ I hq) (fun fl s' hs => ?_) fun e s' hs => hs
  have fin : ∀ {σ' : St} {H' : Hp} {v : V} {u : Value}, Inv (cxOf CX P w K mg base N qual scope f cdv A outer s H E) [] σ' H' s' → RelV v u → Q v H' → CE outer P w H s Q u s' :=
    fun {σ' H' v u} J rv q => ⟨v, H', J.os, J.bare, J.base, J.hok, rv, q⟩
  cases fl with
  | ret u =>
    obtain ⟨v, σ', H', J, rv, q⟩ := hs
    exact fin J rv q
  | next =>
    obtain ⟨σ', H', J, q⟩ := hs
    exact fin (v := V.non) (u := Value.none) J rfl q
  | brk =>
    obtain ⟨_, _, _, q⟩ := hs
    exact False.elim q
  | cont =>
    obtain ⟨_, _, _, q⟩ := hs
    exact False.elim q
end L2
namespace L2
open PySem PySem.Spec PyProof.Rows
section
variable {X : Cx} {x : Str} {p pos : Pos} {e : Expr} {es : List Expr} {t : TA} {id T : String} {r : List V → Hp → VK → Prop}
def tCB (r : List V → Hp → VK → Prop) (t : TA) : TE := fun σ H Q => t σ H fun vs H1 => r vs H1 Q
theorem pe_callB (hc : CallR X (.builtin id) r) (hg : Gl X x) (hm : X.mg x = none) (hv : bootBuiltins x = some (.builtin id)) (ha : PA X (e :: es) t) (hn : x ≠ "__name__" := by decide) (hdb : (x == ("__debug__" : Str)) = false := by decide)
    (he : starEach (e :: es) X.env = (false, eval e X.env) :: starEach es X.env := by rfl) (hpl : (backTo pos (starEach es X.env)).any (·.1) = false := by rfl) : PE X (.Call (.Name x p) (e :: es) [] pos) (tCB r t) := by
  intro pins s σ H Q I h
  refine wpAny_Call_Name_kw (ld_blt I hg hm hv ?_ hn hdb)
  exact PyProof.Rows.callWith_builtin1 (thn (ha pos pins s σ H _ I h) fun us s1 ⟨vs, H1, I1, r1, q1⟩ => hc pins s1 σ H1 vs us Q I1 r1 q1) he hpl
end
end L2
namespace HT
open PySem PyProof.Rows
section
open PySem.SeqAt
open PySem.AutoSeq1 (wpAny_loadPart')
open PySem.MeetsSeq PySem.MeetsSeq2 PySem.MeetsSeq3
end
section
variable {prog : Program} {w : World} {A : Around} {E : Value → Shared → Prop} {s : Shared}
theorem cat_tup {t b : Addr} {vs ws : List Value} {Q : Value → Shared → Prop} (ht : IsTup s.heap t vs.toArray) (hb : IsTup s.heap b ws.toArray) (hv : vs ≠ [])
    (h1 : ws = [] → Q (.ref t) s) (h2 : ws ≠ [] → Q (.ref s.heap.objs.size) { s with heap := s.heap.push { cls := .type "tuple", data := .seq (vs ++ ws).toArray } })
    (hsz : vs.length + ws.length ≤ sizeLine) : wpAny (model prog w) A (binaryOp .Add (.ref t) (.ref b)) Q E s := by
  obtain ⟨⟨cls, dd, data, sl⟩, ho, hc, n, hd⟩ := id ht
  obtain ⟨⟨cls2, dd2, data2, sl2⟩, ho2, hc2, n2, hd2⟩ := id hb
  simp only at hc hd hc2 hd2
  subst hc hd hc2 hd2
  have e : vs.toArray ++ ws.toArray = (vs ++ ws).toArray := by simp
  by_cases hw : ws = []
  · exact concat_meets ⟨_, ho, rfl⟩ ⟨_, ho2, rfl⟩ noFill_tuple_add seq_tuple_add PySem.F.slot_tuple_add PySem.F.entry_tuple_add (PySem.F.args_tuple_add_2 _ _)
      (tuple_addW1 t b vs.toArray ws.toArray n n2 dd dd2 sl sl2 (by simpa using hv) (by simp [hw])) ⟨ho, ho2, h1 hw⟩
  · refine concat_meets ⟨_, ho, rfl⟩ ⟨_, ho2, rfl⟩ noFill_tuple_add seq_tuple_add PySem.F.slot_tuple_add PySem.F.entry_tuple_add (PySem.F.args_tuple_add_2 _ _)
      (tuple_addW2 t b vs.toArray ws.toArray n n2 dd dd2 sl sl2 (by simpa using hv) (by simpa using hw) (by rw [List.size_toArray, List.size_toArray]; exact hsz)) ⟨ho, ho2, ?_⟩
    rw [e]
    exact h2 hw
def sIx (n d : Nat) : Option Int → Nat
  | none => d
  | some v => if v < 0 then (v + (n : Int)).toNat else min v.toNat n
end
end HT
namespace L2
open PySem PySem.Spec PyProof.Rows
abbrev TO := St → Hp → (Option Int → Hp → Prop) → Prop
def PO (X : Cx) (e : Option Expr) (t : TO) : Prop :=
  ∀ (pins : List (Addr × Obj)) (s : Shared) (σ : St) (H : Hp) (Q : Option Int → Hp → Prop), Inv X pins σ H s → t σ H Q →
    wpAny (model X.prog X.w) X.A (evalPart e X.env) (fun u s' => ∃ o H', Inv X pins σ H' s' ∧ IsPart u o ∧ Q o H') X.xe s
def tNoPart : TO := fun _ H Q => Q none H
def tPart (t : TE) : TO := fun σ H Q => t σ H fun x H1 => ∃ i, x = .int i ∧ Q (some i) H1
theorem intsAre_of {ns : List Int} : ∀ {us : List Value}, Vals (ns.map V.int) us → IntsAre us ns := by
  induction ns with
  | nil => intro us r; rw [List.map_nil] at r; cases r; exact .nil
  | cons n ns ih =>
    intro us r
    rw [List.map_cons] at r
    cases r with
    | cons r1 r2 =>
      obtain ⟨t, e⟩ := r1
      subst e
      exact .cons n t (ih r2)
section
variable {X : Cx} {e : Expr} {te : TE} {lo hi : Option Expr} {tl th : TO} {pos p2 : Pos}
theorem po_none : PO X none tNoPart := by
  intro pins s σ H Q I h
  rw [evalPart_none]
  exact wpAny_pure ⟨none, H, I, .none, h⟩
theorem po_some (h : PE X e te) : PO X (some e) (tPart te) := by
  intro pins s σ H Q I hw
  rw [evalPart_some]
  refine thn (h pins s σ H _ I hw) fun u s1 ⟨x, H1, I1, r1, q1⟩ => ?_
  obtain ⟨i, rfl, q⟩ := q1
  obtain ⟨t, rfl⟩ := r1
  exact ⟨some i, H1, I1, .int i t, q⟩
def SlR (X : Cx) (r : V → Option Int → Option Int → Hp → VK → Prop) : Prop :=
  ∀ (pins : List (Addr × Obj)) (s : Shared) (σ : St) (H : Hp) (x : V) (v vl vu : Value) (lo hi : Option Int) (sl : Addr) (Q : VK), Inv X pins σ H s → RelV x v → s.heap.IsSliceOf sl vl vu .none → IsPart vl lo → IsPart vu hi → r x lo hi H Q →
    ∃ T id, typeLookup (.type T) "__getitem__" = pure (some (.builtin id)) ∧ s.TypeIs v T ∧ wpAny (model X.prog X.w) X.A (getItem v (.ref sl)) (EP X pins σ Q) X.xe s
def tSl (r : V → Option Int → Option Int → Hp → VK → Prop) (te : TE) (tl th : TO) : TE := fun σ H Q => te σ H fun x H1 => tl σ H1 fun l H2 => th σ H2 fun u H3 => r x l u H3 Q
theorem pe_slice {r : V → Option Int → Option Int → Hp → VK → Prop} (hr : SlR X r) (he : PE X e te) (hl : PO X lo tl) (hu : PO X hi th) : PE X (.Subscript e (.Slice lo hi none p2) pos) (tSl r te tl th) := by
  intro pins s σ H Q I h
  refine Subscript_ (thn (he pins s σ H _ I h) fun v s1 ⟨x, H1, I1, r1, q1⟩ => ?_)
  refine wpAny_Slice (thn (hl pins s1 σ H1 _ I1 q1) fun vl s2 ⟨l, H2, I2, pl, q2⟩ => thn (hu pins s2 σ H2 _ I2 q2) fun vu s3 ⟨u, H3, I3, pu, q3⟩ => ?_)
  rw [evalPart_none]
  refine wpAny_pure ?_
  have I4 : Inv X pins σ H3 { s3 with heap := s3.heap.push { cls := .type "slice", data := .fields #[vl, vu, .none] } } := I3.kept (t' := s3.toks) fun b ob q => Heap.get?_push_of_some _ q
  obtain ⟨T, id, hT, ht, hg⟩ := hr pins { s3 with heap := s3.heap.push { cls := .type "slice", data := .fields #[vl, vu, .none] } } σ H3 x v vl vu l u s3.heap.objs.size Q I4 r1 (Heap.IsSliceOf.new ..) pl pu q3
  show wpAny (model X.prog X.w) X.A (subscriptTail e (.Slice lo hi none p2) v (.ref s3.heap.objs.size)) (EP X pins σ Q) X.xe { s3 with heap := s3.heap.push { cls := .type "slice", data := .fields #[vl, vu, .none] } }
  exact tail_any (ops := [.ref s3.heap.objs.size, v]) ht hT hg (by with_unfolding_all rfl)
def cutV (xs : List V) (lo hi : Option Int) : List V := (xs.drop (HT.sIx xs.length 0 lo)).take (HT.sIx xs.length xs.length hi - HT.sIx xs.length 0 lo)
theorem cutV_length (xs : List V) (lo hi : Option Int) : (cutV xs lo hi).length ≤ xs.length := by
  unfold cutV
  rw [List.length_take, List.length_drop]
  omega
def rCatT (K : PySem.W.Frag) : R2 := fun x y H Q => ∃ a b xs ys, x = .ref a ∧ y = .ref b ∧ SqT K H a xs ∧ SqT K H b ys ∧ xs ≠ [] ∧ xs.length + ys.length ≤ sizeLine ∧
  (ys = [] → Q (.ref a) H) ∧ (ys ≠ [] → ∀ p, H p = none → Q (.ref p) (upd H p (.tup (xs ++ ys))))
theorem Vals.nil_iff {xs : List V} {us : List Value} (r : Vals xs us) : us = [] ↔ xs = [] := by
  cases r with
  | nil => simp
  | cons _ _ => simp
theorem op_catT : OpR X (binaryOp .Add) (rCatT X.K) := by
  intro pins s σ H x y v u Q I rx ry h
  obtain ⟨a, b, xs, ys, rfl, rfl, ha, hb, hx, hz, q1, q2⟩ := h
  cases rx
  cases ry
  obtain ⟨its, r1, p1, _⟩ := I.tuple ha
  obtain ⟨its2, r2, p2, _⟩ := I.tuple hb
  refine HT.cat_tup p1 p2 (fun z => hx (r1.nil_iff.mp z)) (fun z => ⟨.ref a, H, I, rfl, q1 (r2.nil_iff.mp z)⟩) (fun z => ?_) (by rw [← r1.length, ← r2.length]; exact hz)
  refine ⟨.ref s.heap.objs.size, _, I.laid (t' := s.toks) (o := .tup (xs ++ ys)) (fun b ob q => Heap.get?_push_of_some _ q) (Nat.le_refl _) ?_, rfl, q2 (fun w => z (r2.nil_iff.mpr w)) _ (I.hok.fresh (Nat.le_refl _))⟩
  exact ⟨by rw [List.length_append]; exact hz, ⟨_, r1.append r2, IsTup.new _ _⟩, _, Heap.get?_push_size _ rfl, rfl⟩
end
end L2
namespace L2
open PySem PySem.Spec PyProof.Rows
def ixN (n : Nat) (i : Int) : Option Nat := if 0 ≤ i then (if i < n then some i.toNat else none) else if -(n : Int) ≤ i then some (i + n).toNat else none
def atI {α : Type} (xs : List α) (i : Int) : Option α := (ixN xs.length i).bind fun j => xs[j]?
theorem ixN_seq {n : Nat} {i : Int} {j : Nat} (h : ixN n i = some j) : seqIndex? i n = some j ∧ j < n ∧ -(n : Int) ≤ i ∧ i < n := by
  unfold ixN at h
  by_cases h0 : 0 ≤ i
  · rw [if_pos h0] at h
    by_cases h1 : i < n
    · rw [if_pos h1] at h
      have e : i.toNat = j := Option.some.inj h
      exact ⟨by rw [seqIndex_of h0 h1, e], by omega, by omega, h1⟩
    · rw [if_neg h1] at h; cases h
  · rw [if_neg h0] at h
    by_cases h1 : -(n : Int) ≤ i
    · rw [if_pos h1] at h
      have e : (i + n).toNat = j := Option.some.inj h
      exact ⟨by rw [seqIndex_neg (by omega) h1, e], by omega, h1, by omega⟩
    · rw [if_neg h1] at h; cases h
theorem atI_get {α : Type} {xs : List α} {i : Int} {v : α} (h : atI xs i = some v) : ∃ j, seqIndex? i xs.length = some j ∧ xs[j]? = some v ∧ j < xs.length ∧ -(xs.length : Int) ≤ i ∧ i < xs.length := by
  unfold atI at h
  cases e : ixN xs.length i with
  | none => rw [e] at h; cases h
  | some j =>
    rw [e] at h
    obtain ⟨h1, h2, h3, h4⟩ := ixN_seq e
    exact ⟨j, h1, h, h2, h3, h4⟩
theorem atI_nat {α : Type} {xs : List α} {j : Nat} {v : α} (h : xs[j]? = some v) : atI xs (j : Int) = some v := by
  have hj : j < xs.length := (List.getElem?_eq_some_iff.mp h).1
  have e : ixN xs.length (j : Int) = some j := by
    unfold ixN
    rw [if_pos (by omega), if_pos (by omega)]; simp
  unfold atI; rw [e]; exact h
def PlainIx (b : Expr) : Prop := ∀ o i, subscripted b false o i = operate [o, i] (getItem o i)
def IxR (X : Cx) (r : R2) : Prop :=
  ∀ (value slice : Expr) (pins : List (Addr × Obj)) (s : Shared) (σ : St) (H : Hp) (x y : V) (v u : Value) (Q : VK), Inv X pins σ H s → RelV x v → RelV y u → r x y H Q →
    subscripted slice false v u = operate [v, u] (getItem v u) → wpAny (model X.prog X.w) X.A (subscriptTail value slice v u) (EP X pins σ Q) X.xe s
section
variable {X : Cx} {a b : Expr} {ta tb : TE} {pos : Pos}
theorem pe_ix {r : R2} (hr : IxR X r) (ha : PE X a ta) (hb : PE X b tb) (hs : PlainIx b) : PE X (.Subscript a b pos) (tOp r ta tb) := by
  intro pins s σ H Q I h
  exact Subscript_ (binT ha hb I h fun v u s2 x y H2 I2 rx ry q => hr a b pins s2 σ H2 x y v u Q I2 rx ry q (hs _ _))
def rIxL (K : PySem.W.Frag) : R2 := fun x y H Q => ∃ p xs i v, x = .ref p ∧ y = .int i ∧ SqL K H p xs ∧ atI xs i = some v ∧ Q v H
def rIxT (K : PySem.W.Frag) : R2 := fun x y H Q => ∃ p xs i v, x = .ref p ∧ y = .int i ∧ SqT K H p xs ∧ atI xs i = some v ∧ Q v H
theorem ix_list : IxR X (rIxL X.K) := by
  intro value slice pins s σ H x y v u Q I rx ry h hs
  obtain ⟨p, xs, i, z, rfl, rfl, hq, he, q⟩ := h
  cases rx
  obtain ⟨t, rfl⟩ := ry
  obtain ⟨its, r, pl, hz⟩ := I.list hq
  obtain ⟨j, h1, h2, h3, h4, h5⟩ := atI_get he
  obtain ⟨w, ew, rw'⟩ := r.get h2
  have hl := r.length
  have hn := line63
  have fin : EP X pins σ Q w s := ⟨z, H, I, rw', q⟩
  by_cases h0 : 0 ≤ i
  · have hj : i.toNat = j := by
      rw [seqIndex_of h0 h5] at h1
      exact Option.some.inj h1
    exact item_listR pl.isList h0 (by omega) (by rw [hj]; simpa using ew) fin hs
  · have hj : (i + (its.toArray.size : Int)).toNat = j := by
      rw [seqIndex_neg (by omega) h4] at h1
      rw [List.size_toArray, ← hl]
      exact Option.some.inj h1
    exact subscriptTail_builtinR (x := w) pl.isList.typeIs slot_list_getitem.lookup
      (wpAny_getItem_list_neg (Q := fun r s' => r = w ∧ EP X pins σ Q r s') pl.isList (by omega) (by rw [List.size_toArray] <;> omega) (by omega) (by rw [hj]; simpa using ew) ⟨rfl, fin⟩) hs
theorem ix_tup : IxR X (rIxT X.K) := by
  intro value slice pins s σ H x y v u Q I rx ry h hs
  obtain ⟨p, xs, i, z, rfl, rfl, hq, he, q⟩ := h
  cases rx
  obtain ⟨t, rfl⟩ := ry
  obtain ⟨its, r, pl, hz⟩ := I.tuple hq
  obtain ⟨j, h1, h2, h3, h4, h5⟩ := atI_get he
  obtain ⟨w, ew, rw'⟩ := r.get h2
  have hl := r.length
  have hn := line63
  have fin : EP X pins σ Q w s := ⟨z, H, I, rw', q⟩
  exact subscriptTail_builtinR (x := w) pl.typeIs slot_tuple_getitem.lookup
    (getItem_tuple (j := j) (Q := fun r s' => r = w ∧ EP X pins σ Q r s') pl (by omega) (by omega) (by rw [List.size_toArray, ← hl]; exact h1) (by simpa using ew) ⟨rfl, fin⟩) hs
theorem Inv.lst {pins : List (Addr × Obj)} {σ : St} {H : Hp} {s : Shared} {p : Addr} {xs : List V} (I : Inv X pins σ H s) (h : H p = some (.lst xs)) :
    ∃ (its : List Value) (n : Nat), Vals xs its ∧ s.heap.get? p = some { cls := .type "list", data := .seq its.toArray n } ∧ xs.length ≤ sizeLine := by
  obtain ⟨z, its, n, r, e⟩ := I.hok p _ h
  exact ⟨its, n, r, e, z⟩
theorem slice_bounds (lo hi : Option Int) (n : Nat) : (sliceBounds lo hi none n).1 = ((HT.sIx n 0 lo : Nat) : Int) ∧ (sliceBounds lo hi none n).2.1 = ((HT.sIx n n hi : Nat) : Int) ∧ (sliceBounds lo hi none n).2.2 = 1 := by
  refine ⟨?_, ?_, rfl⟩
  · cases lo with
    | none => simp [sliceBounds, HT.sIx]
    | some i =>
      simp only [sliceBounds, HT.sIx, Option.getD_none, show (1 : Int) > 0 by decide, if_true]
      by_cases h : i < 0
      · simp only [h, if_true] <;> omega
      · simp only [h, if_false] <;> omega
  · cases hi with
    | none => simp [sliceBounds, HT.sIx]
    | some i =>
      simp only [sliceBounds, HT.sIx, Option.getD_none, show (1 : Int) > 0 by decide, if_true]
      by_cases h : i < 0
      · simp only [h, if_true] <;> omega
      · simp only [h, if_false] <;> omega
theorem slicePick_cut (its : List Value) (lo hi : Option Int) : slicePick its.toArray lo hi none = ((its.drop (HT.sIx its.length 0 lo)).take (HT.sIx its.length its.length hi - HT.sIx its.length 0 lo)).toArray := by
  obtain ⟨h1, h2, h3⟩ := slice_bounds lo hi its.toArray.size
  unfold slicePick
  rw [h1, h2, h3]
  simp only [sliceRange_one, pick_run, List.size_toArray] <;> rfl
def rSlL (K : PySem.W.Frag) : V → Option Int → Option Int → Hp → VK → Prop := fun x lo hi H Q => ∃ a xs, x = .ref a ∧ SqL K H a xs ∧ ∀ p, H p = none → Q (.ref p) (upd H p (.lst (cutV xs lo hi)))
theorem sl_list : SlR X (rSlL X.K) := by
  intro pins s σ H x v vl vu lo hi sl Q I rx hs pl pu h
  obtain ⟨a, xs, rfl, hx, q⟩ := h
  cases rx
  obtain ⟨its, r, ht, hz⟩ := I.list hx
  have hlen := r.length
  refine ⟨"list", _, slot_list_getitem.lookup, ht.isList.typeIs, ?_⟩
  refine wpAny_getItem_list_slice ht.isList hs pl pu .none (by simp) ?_ (by rw [List.size_toArray] <;> omega)
  rw [slicePick_cut, ← hlen]
  refine ⟨.ref s.heap.objs.size, _, I.laid (t' := s.toks) (o := .lst (cutV xs lo hi)) (fun b ob q => Heap.get?_push_of_some _ q) (Nat.le_refl _) ?_, rfl, q _ (I.hok.fresh (Nat.le_refl _))⟩
  exact ⟨Nat.le_trans (cutV_length xs lo hi) hz, _, 0, (r.drop (HT.sIx xs.length 0 lo)).take (HT.sIx xs.length xs.length hi - HT.sIx xs.length 0 lo), Heap.get?_push_size _ rfl⟩
def flatV : V → Bool
  | .non => true
  | .bl _ => true
  | .int _ => true
  | .str _ => true
  | _ => false
def eqV : V → V → Bool
  | .non, .non => true
  | .bl a, .bl b => a == b
  | .bl a, .int b => (if a then 1 else 0) == b
  | .int a, .bl b => a == (if b then 1 else 0)
  | .int a, .int b => a == b
  | .str a, .str b => a == b
  | _, _ => false
theorem eqAt_V {A : Around} {s : Shared} {y x : V} {u v : Value} (ry : RelV y u) (rx : RelV x v) (fy : flatV y = true) (fx : flatV x = true) : SeqAt.EqAt A s u v (eqV y x) := by
  cases y with
  | non =>
    cases ry
    cases x with
    | non => cases rx; exact SeqAt.EqAt.same _
    | bl b => cases rx; exact SeqAt.EqAt.none_bool b
    | int b => obtain ⟨t, rfl⟩ := rx; exact SeqAt.EqAt.none_int b t
    | str b => obtain ⟨t, rfl⟩ := rx; exact SeqAt.EqAt.none_str b t
    | _ => exact absurd (show false = true from fx) Bool.false_ne_true
  | bl a =>
    cases ry
    cases x with
    | non => cases rx; exact SeqAt.EqAt.bool_none a
    | bl b => cases rx; exact SeqAt.EqAt.bool_bool a b
    | int b => obtain ⟨t, rfl⟩ := rx; exact SeqAt.EqAt.bool_int a b t
    | str b => obtain ⟨t, rfl⟩ := rx; exact SeqAt.EqAt.bool_str a b t
    | _ => exact absurd (show false = true from fx) Bool.false_ne_true
  | int a =>
    obtain ⟨t', rfl⟩ := ry
    cases x with
    | non => cases rx; exact SeqAt.EqAt.int_none a t'
    | bl b => cases rx; exact SeqAt.EqAt.int_bool a t' b
    | int b => obtain ⟨t, rfl⟩ := rx; exact SeqAt.EqAt.int_int a t' b t
    | str b => obtain ⟨t, rfl⟩ := rx; exact SeqAt.EqAt.int_str a t' b t
    | _ => exact absurd (show false = true from fx) Bool.false_ne_true
  | str a =>
    obtain ⟨t', rfl⟩ := ry
    cases x with
    | non => cases rx; exact SeqAt.EqAt.str_none a t'
    | bl b => cases rx; exact SeqAt.EqAt.str_bool a t' b
    | int b => obtain ⟨t, rfl⟩ := rx; exact SeqAt.EqAt.str_int a t' b t
    | str b => obtain ⟨t, rfl⟩ := rx; exact SeqAt.EqAt.str_str a t' b t
    | _ => exact absurd (show false = true from fx) Bool.false_ne_true
  | _ => exact absurd (show false = true from fy) Bool.false_ne_true
def eqU (x : V) (u : Value) : Bool := match u with
  | .none => eqV .non x
  | .bool b => eqV (.bl b) x
  | .int i _ => eqV (.int i) x
  | .str z _ => eqV (.str z) x
  | _ => false
theorem eqU_of {x y : V} {u : Value} (r : RelV y u) (f : flatV y = true) : eqU x u = eqV y x := by
  cases y with
  | non => cases r; rfl
  | bl b => cases r; rfl
  | int i => obtain ⟨t, rfl⟩ := r; rfl
  | str z => obtain ⟨t, rfl⟩ := r; rfl
  | _ => exact absurd (show false = true from f) Bool.false_ne_true
theorem any_eqU {x : V} : ∀ {xs : List V} {us : List Value}, Vals xs us → xs.all flatV = true → us.any (eqU x) = xs.any fun y => eqV y x
  | _, _, .nil, _ => rfl
  | y :: xs, u :: us, .cons r t, f => by
    rw [List.all_cons, Bool.and_eq_true] at f
    rw [List.any_cons, List.any_cons, eqU_of r f.1, any_eqU t f.2]
theorem mem_eqAt {A : Around} {s : Shared} {x : V} {v : Value} (rx : RelV x v) (fx : flatV x = true) : ∀ {xs : List V} {us : List Value}, Vals xs us → xs.all flatV = true → ∀ u ∈ us, SeqAt.EqAt A s u v (eqU x u)
  | _, _, .nil, _ => fun u hu => by cases hu
  | y :: xs, u :: us, .cons r t, f => fun u' hu => by
    rw [List.all_cons, Bool.and_eq_true] at f
    rcases List.mem_cons.mp hu with rfl | hu
    · rw [eqU_of r f.1]; exact eqAt_V r rx f.1 fx
    · exact mem_eqAt rx fx t f.2 u' hu
def inV (x : V) (xs : List V) : Bool := xs.any fun y => eqV y x
def rIn (K : PySem.W.Frag) (neg : Bool) : R2 := fun x y H Q => ∃ p xs, y = .ref p ∧ (SqL K H p xs ∨ SqT K H p xs) ∧ flatV x = true ∧ xs.all flatV = true ∧ Q (.bl (if neg then !inV x xs else inV x xs)) H
theorem op_in_seq : OpR X (compareOp .In) (rIn X.K false) := by
  intro pins s σ H x y v u Q I rx ry h
  obtain ⟨p, xs, rfl, hq, fx, fs, q⟩ := h
  cases ry
  rcases hq with hq | hq
  · obtain ⟨its, r, pl, hz⟩ := I.list hq
    refine SeqAt.in_listAt (eqU x) pl.isList (fun w hw => mem_eqAt rx fx r fs w (by simpa using hw)) ⟨.bl _, H, I, rfl, ?_⟩
    rw [show its.toArray.any (eqU x) = its.any (eqU x) by simp, any_eqU r fs]
    exact q
  · obtain ⟨its, r, pl, hz⟩ := I.tuple hq
    refine SeqAt.in_tupleAt (eqU x) pl (fun w hw => mem_eqAt rx fx r fs w (by simpa using hw)) ⟨.bl _, H, I, rfl, ?_⟩
    rw [show its.toArray.any (eqU x) = its.any (eqU x) by simp, any_eqU r fs]
    exact q
theorem op_notIn_seq : OpR X (compareOp .NotIn) (rIn X.K true) := by
  intro pins s σ H x y v u Q I rx ry h
  obtain ⟨p, xs, rfl, hq, fx, fs, q⟩ := h
  cases ry
  rcases hq with hq | hq
  · obtain ⟨its, r, pl, hz⟩ := I.list hq
    refine SeqAt.notIn_listAt (eqU x) pl.isList (fun w hw => mem_eqAt rx fx r fs w (by simpa using hw)) ⟨.bl _, H, I, rfl, ?_⟩
    rw [show its.toArray.any (eqU x) = its.any (eqU x) by simp, any_eqU r fs]
    exact q
  · obtain ⟨its, r, pl, hz⟩ := I.tuple hq
    refine SeqAt.notIn_tupleAt (eqU x) pl (fun w hw => mem_eqAt rx fx r fs w (by simpa using hw)) ⟨.bl _, H, I, rfl, ?_⟩
    rw [show its.toArray.any (eqU x) = its.any (eqU x) by simp, any_eqU r fs]
    exact q
theorem call_len_seq : CallR X (.builtin "len") (fun xs H Q => ∃ p ys, xs = [.ref p] ∧ (SqL X.K H p ys ∨ SqT X.K H p ys) ∧ Q (.int ys.length) H) := by
  intro pins s σ H xs us Q I r h
  obtain ⟨p, ys, rfl, hq, q⟩ := h
  obtain ⟨u, rfl, rx⟩ := vals1 r
  cases rx
  have hn := line63
  rcases hq with hq | hq
  · obtain ⟨its, r', pl, hz⟩ := I.list hq
    have hlen := r'.length
    exact Calls.call_len_list pl.isList (by simp only [List.size_toArray] <;> omega) ⟨.int ys.length, H, I.tok _, ⟨s.toks + 1, by rw [List.size_toArray, hlen]⟩, q⟩
  · obtain ⟨its, r', pl, hz⟩ := I.tuple hq
    have hlen := r'.length
    exact len_tuple pl (by simp only [List.size_toArray] <;> omega) ⟨.int ys.length, H, I.tok _, ⟨s.toks + 1, by rw [List.size_toArray, hlen]⟩, q⟩
theorem call_len_str : CallR X (.builtin "len") (fun xs H Q => ∃ z, xs = [.str z] ∧ z.length ≤ sizeLine ∧ Q (.int z.length) H) := by
  intro pins s σ H xs us Q I r h
  obtain ⟨z, rfl, hz, q⟩ := h
  obtain ⟨u, rfl, t, rfl⟩ := vals1 r
  have hn := line63
  exact len_str (by omega) ⟨.int z.length, H, I.tok _, ⟨_, rfl⟩, q⟩
theorem call_list_of : CallR X (.type "list") (fun xs H Q => ∃ p ys, xs = [.ref p] ∧ (SqL X.K H p ys ∨ SqT X.K H p ys) ∧ ∀ l, H l = none → Q (.ref l) (upd H l (.lst ys))) := by
  intro pins s σ H xs us Q I r h
  obtain ⟨p, ys, rfl, hq, q⟩ := h
  obtain ⟨u, rfl, rx⟩ := vals1 r
  cases rx
  have fin : ∀ (its : List Value), Vals ys its → ys.length ≤ sizeLine → ∀ (h' : Heap) (c' : Nat), (∀ b o', s.heap.get? b = some o' → h'.get? b = some o') →
      h'.get? s.heap.objs.size = some { cls := .type "list", dict := none, data := .seq its.toArray c', slots := #[] } → EP X pins σ Q (.ref s.heap.objs.size) { s with heap := h' } := fun its r' hz h' c' kp e =>
    ⟨.ref s.heap.objs.size, _, I.laid (t' := s.toks) kp (Nat.le_refl _) (show ObjOk X.prog X.w _ h' _ (.lst ys) from ⟨hz, its, c', r', e⟩), rfl, q _ (I.hok.fresh (Nat.le_refl _))⟩
  rcases hq with hq | hq
  · obtain ⟨its, r', pl, hz⟩ := I.list hq
    have hlen := r'.length
    obtain ⟨o, ho, hc, n, hd⟩ := pl.isList
    exact call_list_seq p (.inl rfl) ho hc hd (fun h' c' kp e => fin its r' hz h' c' kp e) (by simp only [List.size_toArray] <;> omega)
  · obtain ⟨its, r', pl, hz⟩ := I.tuple hq
    have hlen := r'.length
    obtain ⟨o, ho, hc, n, hd⟩ := pl
    exact call_list_seq p (.inr rfl) ho hc hd (fun h' c' kp e => fin its r' hz h' c' kp e) (by simp only [List.size_toArray] <;> omega)
theorem call_tuple_of : CallR X (.type "tuple") (fun xs H Q => ∃ p ys, xs = [.ref p] ∧ ((SqL X.K H p ys ∧ ∀ l, H l = none → Q (.ref l) (upd H l (.tup ys))) ∨ (SqT X.K H p ys ∧ Q (.ref p) H))) := by
  intro pins s σ H xs us Q I r h
  obtain ⟨p, ys, rfl, h⟩ := h
  obtain ⟨u, rfl, rx⟩ := vals1 r
  cases rx
  rcases h with ⟨hq, q⟩ | ⟨hq, q⟩
  · obtain ⟨its, r', pl, hz⟩ := I.list hq
    have hlen := r'.length
    refine call_tuple_list pl.isList (fun h' kp => ?_) (by simp only [List.size_toArray] <;> omega)
    have I1 : Inv X pins σ H { s with heap := h' } := I.kept (t' := s.toks) kp
    have I2 : Inv X pins σ (upd H h'.objs.size (.tup ys)) { s with heap := h'.push { cls := .type "tuple", data := .seq its.toArray } } :=
      I1.laid (t' := s.toks) (fun b o e => Heap.get?_push_of_some _ e) (Nat.le_refl _) (show ObjOk X.prog X.w _ _ _ (.tup ys) from ⟨hz, ⟨its, r', IsTup.new _ _⟩, _, Heap.get?_push_size _ rfl, rfl⟩)
    exact ⟨.ref h'.objs.size, _, I2, rfl, q _ (I1.hok.fresh (Nat.le_refl _))⟩
  · obtain ⟨its, r', pl, hz⟩ := I.tuple hq
    exact call_tuple_same pl ⟨.ref p, H, I, rfl, q⟩
variable {o e : Expr} {es : List Expr} {to : TE} {t : TA} {name : Str} {apos cpos : Pos} {T id : String} {r : V → List V → Hp → VK → Prop}
end
end L2
namespace L2
open PySem PySem.Spec PyProof.Rows
theorem Vals.one : ∀ {x : V} {us : List Value}, Vals [x] us → ∃ u, us = [u] ∧ RelV x u
  | _, _, .cons r .nil => ⟨_, rfl, r⟩
theorem Vals.two : ∀ {x y : V} {us : List Value}, Vals [x, y] us → ∃ u v, us = [u, v] ∧ RelV x u ∧ RelV y v
  | _, _, _, .cons r (.cons q .nil) => ⟨_, _, rfl, r, q⟩
theorem Vals.zero : ∀ {us : List Value}, Vals [] us → us = []
  | _, .nil => rfl
section
variable {X : Cx} {pins : List (Addr × Obj)} {σ : St} {H : Hp} {s : Shared} {l b : Addr} {xs ys zs : List V}
theorem Inv.fresh (I : Inv X pins σ H s) : H s.heap.objs.size = none := I.hok.fresh (Nat.le_refl _)
end
section
variable {X : Cx}
end
section
variable {prog : Program} {w : World} {A : Around} {E : Value → Shared → Prop} {s : Shared}
end
section
variable {X : Cx}
end
end L2
namespace Att
open PySem PySem.W PySem.Calls PyProof.Rows
theorem ints_of_wellAll {P : Params} {h : Heap} : ∀ (ns : List Int) (vs : List Value), WellAll P h vs (ns.map WData.int) → IntsAre vs ns := by
  intro ns
  induction ns with
  | nil =>
    intro vs w
    rw [List.map_nil] at w
    cases w
    exact .nil
  | cons n ns ih =>
    intro vs w
    rw [List.map_cons] at w
    cases w with
    | cons a b =>
      cases a
      exact .cons _ _ (ih _ b)
theorem script_of {l : OpenLaw} {n : Nat} (hn : l.most = some n) {P : Params} {h : Heap} {args : List WData} {vals : List Value}
    (hpre : l.row.toRowW.claim.pre args = true) (hwl : WellAll P h vals args) :
    ∃ a vs ns, vals = [Value.ref a] ∧ args = [WData.list (ns.map WData.int)] ∧ h.get? a = some { cls := .type "list", data := .seq vs.toArray } ∧ IntsAre vs ns ∧ ns.length ≤ n := by
  have hsh : WShape.hasAll [] args [.list .int] = true := (pre_splitW hpre).1
  have hc : l.pre.holds [] { args := args } = true := (pre_splitW hpre).2
  obtain ⟨d, r, rfl, h1, h2⟩ := hasAllW_cons hsh
  obtain rfl := hasAllW_nil h2
  obtain ⟨xs, rfl, h3⟩ := hasW_list h1
  obtain ⟨ns, rfl⟩ := items_int h3
  have hlen : ns.length ≤ n := by
    unfold OpenLaw.pre at hc
    have h4 : (WTm.not (.lt (.lit (.int (n : Int))) (.len (.arg 0)))).holds [] { args := [.list (ns.map .int)] } = true := by
      have h4 := (holds_andW hc).1
      rw [hn] at h4
      exact h4
    have h5 := condW_of h4 (w_not (w_lt w_lit (w_len_list (w_arg rfl))))
    rw [List.length_map] at h5
    refine Nat.le_of_not_lt fun q => ?_
    have q' : (n : Int) < ((ns.length : Nat) : Int) := by omega
    first
      | (rw [decide_eq_true q'] at h5; exact absurd h5 (by decide))
      | (simp at h5; omega)
  cases hwl with
  | cons w1 w2 =>
    cases w2
    cases w1 with
    | list ho hall => exact ⟨_, _, ns, rfl, rfl, ho, ints_of_wellAll ns _ hall, hlen⟩
theorem post_true (l : OpenLaw) (args : List WData) : l.row.toRowW.claim.post args (.bool true) args = true :=
  postW_of (r := l.row.toRowW) (X := (true == true))
    (show WShape.has [] (.bool true) .bool = true by first | rfl | decide | simp [WShape.has, WShape.arms, WShape.armsAll])
    (show (WTm.eq .res (.lit (.bool true))).value [] { args := args, res := some (.bool true), after := args } = some (.bool (true == true)) from w_eq_bool (w_res rfl) w_lit) rfl
theorem attach_call {l : OpenLaw} {n : Nat} {q : Program} {loose : List Str} {XP : (Str → Option Value) → Heap → Prop} {YP : World → Heap → Prop} {d : DefRec}
    (hn : l.most = some n) (hdf : d.params.defaults = [])
    (call : ∀ (w : World) (s₀ s₁ : Shared) (mg mb : Str → Option Value) (fa : Addr) (o : Obj) (pm cd doc : Value) (a : Addr) (vs : List Value) (ns : List Int),
      Ground q loose [] XP w s₀ mg mb s₁.heap → YP w s₁.heap →
      s₁.heap.get? fa = some o → o.data = .func (docDef d.name d.params d.body d.scope pm cd doc) → s₁.heap.CodeRec cd d.name → mg d.name = some (.ref fa) →
      s₁.heap.get? a = some { cls := .type "list", data := .seq vs.toArray } → IntsAre vs ns → ns.length ≤ n → s₁.gens = #[] →
      codeAny (model l.prog w) callerA (.call (.ref fa) ⟨[.ref a], []⟩) (fun r s' => r = .ok (.ret (.bool true)) ∧ OldK s₁.heap s'.heap ∧ s'.os = s₁.os ∧ AllBare s'.gens) s₁) :
    WalkO q loose XP YP l.row.toRowW d [] (fun f vs => PySem.call f vs) := by
  intro w s₀ s₁ mg mb G Y fa o pm cd doc dV kV ho hd hcd hD hmg hg args vals as hpre hlay hrd hwl hlo
  obtain rfl : dV = .none := Dflts.none hD hdf
  obtain rfl : kV = .none := Dflts.noKw hD
  obtain ⟨a, vs, ns, rfl, rfl, hobj, hints, hlen⟩ := script_of hn hpre hwl
  refine enter_call (codeAny_mono (call w s₀ s₁ mg mb fa o pm cd doc a vs ns G Y ho (fd_plain hd) hcd hmg hobj hints hlen hg) fun r s' hq => ?_)
  obtain ⟨rfl, h2, h3, h4⟩ := hq
  exact ⟨.inl ⟨.bool true, .bool true, [], rfl, fun _ => rfl, .bool true, post_true l _, fun _ => ⟨List.Pairwise.nil, fun _ hm => (nomatch hm)⟩⟩, h2, h3, h4⟩
section
variable {prog : Program} {w : World} {A : Around} {E : Value → Shared → Prop} {s : Shared} {K : Frag}
end
end Att
namespace L2
open PySem PySem.Spec PyProof.Rows
theorem vals_ints : ∀ {vs : List Value} {ns : List Int}, IntsAre vs ns → Vals (ns.map V.int) vs
  | _, _, .nil => .nil
  | _, _, .cons n t h => .cons ⟨t, rfl⟩ (vals_ints h)
end L2
namespace L2
open PySem PySem.Spec PyProof.Rows
end L2
namespace L2
open PySem PySem.Spec PyProof.Rows
def inClass (s : Stmt) (j : Nat) : Stmt := match s with
  | .ClassDef _ _ _ body _ _ _ _ _ _ _ => body.getD j (.Pass ⟨0, 0, 0, 0⟩)
  | _ => .Pass ⟨0, 0, 0, 0⟩
def defArgs (s : Stmt) : Arguments := match s with
  | .FunctionDef _ a _ _ _ _ _ _ _ _ => a
  | _ => { posonlyargs := [], args := [], vararg := none, kwonlyargs := [], kw_defaults := [], kwarg := none, defaults := [] }
def defBody (s : Stmt) : List Stmt := match s with
  | .FunctionDef _ _ b _ _ _ _ _ _ _ => b
  | _ => []
def defScope (s : Stmt) : Scope := match s with
  | .FunctionDef _ _ _ _ _ _ sc _ _ _ => sc
  | _ => { kind := .function, names := [], isGenerator := false, isCoroutine := false }
abbrev CX0 : CXT := fun _ _ _ _ _ _ => False
abbrev E0 : XK := fun _ _ _ => False
theorem pass0 {X : Cx} : Passes CX0 X E0 := fun _ _ _ _ _ _ _ h => h.elim
structure Fun (K : PySem.W.Frag) (x qual : Str) (st : Stmt) (f : Addr) (fd : FuncData) : Prop where
  ex : ∃ (oc : Value) (od : Option Addr) (kV doc pm : Value) (an : Option Addr) (cdv ct : Value) (osl : Array (Option Value)),
    fd = PySem.W.fnOf x qual (defArgs st) (defBody st) (defScope st) .none kV doc pm an cdv ct ∧ K.lookup f = some ⟨oc, od, .func fd, osl⟩ ∧ PySem.W.codeIn K cdv qual = true
  kp : PySem.W.keepIn K (.ref f) = true
section
variable {P : Program} {w : World} {K : PySem.W.Frag} {mg : Str → Option Value} {base : Heap}
theorem Fun.ok {x qual : Str} {st : Stmt} {f : Addr} {fd : FuncData} {N ps : List Str} {k : Nat} {sp : Sp} (F : Fun K x qual st f fd) (S : FnScope N ps (defScope st)) (len : ∀ vs H Q E, sp vs H Q E → vs.length = ps.length)
    (hbody : ∀ (cdv : Value) (A : Around) (outer : List Env) (s : Shared) (H : Hp) (vs : List V) (Q : VK) (E : XK), Room k (A.deeper (envOfC qual (defScope st) s.heap.objs.size f cdv)) → sp vs H Q E →
      ∃ t, PSs (cxOf CX0 P w K mg base N qual (defScope st) f cdv A outer s H E).nox (defBody st) t ∧ t { nx := fun _ H' => Q .non H', rt := Q } (start N vs) H) : FnOk P w K mg base CX0 (k + 1) f fd ps sp := by
  obtain ⟨oc, od, kV, doc, pm, an, cdv, ct, osl, rfl, lk, hcd⟩ := F.ex
  refine fn_of lk hcd S len fun A outer s H vs Q E hr hsp => ?_
  obtain ⟨t, h, q⟩ := hbody cdv A outer s H vs Q E hr hsp
  exact ⟨t, h.nox, q⟩
theorem Fun.binds {x qual : Str} {st : Stmt} {f : Addr} {fd : FuncData} {ps : List Str} (F : Fun K x qual st f fd)
    (h : ∀ (kV doc pm : Value) (an : Option Addr) (cdv ct : Value) (us : List Value), us.length = ps.length → bindArgs (PySem.W.fnOf x qual (defArgs st) (defBody st) (defScope st) .none kV doc pm an cdv ct) ⟨us, []⟩ = pure (ps.zip us)) : Binds K fd ps [] := by
  obtain ⟨oc, od, kV, doc, pm, an, cdv, ct, osl, rfl, lk, hcd⟩ := F.ex
  exact .all (h kV doc pm an cdv ct)
theorem fun_mk {x qual : Str} {st : Stmt} {f : Addr} {oc : Value} {od an : Option Addr} {osl : Array (Option Value)} {kV doc pm cdv ct : Value} (l : K.lookup f = some ⟨oc, od, .func (PySem.W.fnOf x qual (defArgs st) (defBody st) (defScope st) .none kV doc pm an cdv ct), osl⟩)
    (c : PySem.W.codeIn K cdv qual = true) (k : PySem.W.keepIn K (.ref f) = true) : Fun K x qual st f (PySem.W.fnOf x qual (defArgs st) (defBody st) (defScope st) .none kV doc pm an cdv ct) := ⟨⟨oc, od, kV, doc, pm, an, cdv, ct, osl, rfl, l, c⟩, k⟩
end
section
variable {X : Cx}
theorem pv (i : Nat) {x : Str} {pos : Pos} (hN : X.N[i]? = some x := by rfl) (hv : Vis X.env.scope x := by first | exact Or.inl rfl | exact Or.inr (Or.inl rfl) | exact Or.inr (Or.inr rfl)) (hd : (x == ("__debug__" : Str)) = false := by decide)
    (hcd : (x == ("__classdict__" : Str)) = false := by decide) : PE X (.Name x pos) (tVar i) := pe_var hN hv hd hcd
end
theorem iteF {A B : Prop} (h : B) : if false = true then A else B := by
  rw [if_neg Bool.false_ne_true]
  exact h
theorem iteT {A B : Prop} (h : A) : if true = true then A else B := by
  rw [if_pos rfl]
  exact h
def Same (H H' : Hp) : Prop := ∀ b o, H b = some o → H' b = some o
theorem Same.refl (H : Hp) : Same H H := fun _ _ h => h
theorem Same.trans {H H1 H2 : Hp} (a : Same H H1) (b : Same H1 H2) : Same H H2 := fun c o h => b c o (a c o h)
theorem Same.free {H H' : Hp} (e : Same H H') {l : Addr} (h : H' l = Option.none) : H l = Option.none := by
  cases q : H l with
  | none => rfl
  | some o =>
    rw [e l o q] at h
    cases h
theorem Same.seq {K : PySem.W.Frag} {H H' : Hp} {a : Addr} {xs : List V} (e : Same H H') (h : SqL K H a xs) : SqL K H' a xs := by
  rcases h with (h | ⟨o, h⟩) | h
  · exact .inl (.inl (e _ _ h))
  · exact .inl (.inr ⟨o, e _ _ h⟩)
  · exact .inr h
end L2
set_option maxRecDepth 100000
set_option maxHeartbeats 4000000
namespace L2
open PySem PySem.Spec PyProof.Rows
def cxComp (X : Cx) (scope : Scope) (cl : List (Str × Addr)) (C : Addr) (N : List Str) (s : Shared) (H : Hp) (ex : List Addr) : Cx :=
  { X with N := N, s₀ := s, H₀ := H, env := compEnvC scope cl C X.env, outer := X.stack, ex := ex, fn := fun _ => false, pn := [], xe := fun _ _ => False }
def CompOk (osc : Scope) (oN : List Str) (k : Nat) (ix : List Nat) (N : List Str) (scope : Scope) : Prop :=
  scope.kind = .function ∧ (∀ y ∈ scope.names, y.2 ≠ .cell) ∧ (∀ y ∈ scope.names, y.2 = .local → scope.names.lookup y.1 = some .local) ∧
  (∀ y ∈ scope.names, y.2 = .free → osc.names.lookup y.1 = some .cell ∨ osc.names.lookup y.1 = some .free) ∧
  N.length = k + ix.length ∧ (∀ p ∈ (N.drop k).zip ix, oN[p.2]? = some p.1 ∧ scope.names.lookup p.1 = some .free)
instance {osc : Scope} {oN : List Str} {k : Nat} {ix : List Nat} {N : List Str} {scope : Scope} : Decidable (CompOk osc oN k ix N scope) := by
  unfold CompOk
  exact inferInstance
def outS (ix : List Nat) (σ : St) : St := ix.map fun i => (σ[i]?).getD none
def PF (X : Cx) (ifs : List Expr) (t : TT) : Prop :=
  ∀ (pins : List (Addr × Obj)) (s : Shared) (σ : St) (H : Hp) (Q : Bool → Hp → Prop), Inv X pins σ H s → t σ H Q →
    wpAny (model X.prog X.w) X.A (forIn ifs true fun c r => if r = true then do let ok ← isTrue c X.env (eval c X.env); pure (ForInStep.yield ok) else pure (ForInStep.yield r)) (TP X pins σ Q) X.xe s
section
variable {X : Cx} {pins : List (Addr × Obj)} {σ : St} {H : Hp} {s : Shared}
structure BlockEnd (X : Cx) (scope : Scope) (cl : List (Str × Addr)) (N : List Str) (s : Shared) (H : Hp) (fp : List Addr) (D C : Addr) (ys : List V) (H' : Hp) (s' : Shared) : Prop where
  inv : ∃ σ', Inv (cxComp X scope cl C N s H fp) [] σ' H' s'
  dn : H' D = none
  lst : ∃ (its : List Value) (n : Nat), Vals ys its ∧ s'.heap.get? D = some { cls := .type "list", data := .seq its.toArray n }
  hD : s.heap.objs.size ≤ D
  hC : s.heap.objs.size ≤ C
  ne : D ≠ C
  sz : ys.length ≤ sizeLine
theorem BlockEnd.out {scope : Scope} {cl : List (Str × Addr)} {N : List Str} {fp : List Addr} {D C : Addr} {ys : List V} {H' : Hp} {s' : Shared} (I : Inv X pins σ H s) (hf : ∀ b ∈ fp, FpOk X pins H b)
    (B : BlockEnd X scope cl N s H fp D C ys H' s') : Inv X pins σ (upd H' D (.lst ys)) s' ∧ (∃ m, s'.heap.Ns C m) ∧ upd H' D (.lst ys) C = none := by
  obtain ⟨σ', J⟩ := B.inv
  obtain ⟨its, n, rv, e⟩ := B.lst
  have eD : ∀ b u, H' b = some u → b ≠ D := fun b u z => ne_of_none z B.dn
  refine ⟨?_, let ⟨m, hm, _⟩ := J.loc; ⟨m, hm⟩, by rw [upd_ne (Ne.symm B.ne)]; exact J.free⟩
  have U : Un (frs X.stack) fp H H' s.heap s'.heap := J.base
  refine I.call' (ch := fp) J.os ⟨U.keep, U.slot, fun b o q z hb => ?_, U.there, fun b xs q => ?_, fun b o xs q => ?_, fun b ps q => ?_⟩ ?_ J.bare fun b hb => ?_
  · rw [upd_ne (Nat.ne_of_lt (Nat.lt_of_lt_of_le (Heap.lt_size q) B.hD))]
    exact U.free b o q z hb
  · have z := U.tups b xs q
    rw [upd_ne (eD _ _ z)]; exact z
  · have z := U.frzs b o xs q
    rw [upd_ne (eD _ _ z)]; exact z
  · obtain ⟨m, z⟩ := U.tbls b ps q
    exact ⟨m, by rw [upd_ne (eD _ _ z)]; exact z⟩
  · intro b o q
    by_cases hb : b = D
    · subst hb
      rw [upd_same] at q
      cases q
      exact ⟨B.sz, its, n, rv, e⟩
    · rw [upd_ne hb] at q
      refine (J.hok b o q).stay (fun _ _ _ z => z) (fun c z => ?_) fun c xs z => ?_
      · rw [upd_ne (eD _ _ z)]; exact z
      · rw [upd_ne (eD _ _ z)]; exact z
  · obtain ⟨_, h1, h2, h3, h4, h5⟩ := hf b hb
    exact ⟨h3, h1, h4, h5⟩
end
end L2
set_option maxRecDepth 100000
set_option maxHeartbeats 4000000
namespace L2
open PySem PySem.Spec PyProof.Rows
section
variable {X : Cx} {pins : List (Addr × Obj)} {σ : St} {H : Hp} {s : Shared}
end
section
variable {X : Cx} {elt target iter : Expr} {ifs : List Expr} {scope : Scope} {pos : Pos} {N : List Str} {k : Nat} {ix : List Nat} {wi : TI} {g : TG} {tc : TT} {te : TE}
end
end L2
set_option maxRecDepth 100000
set_option maxHeartbeats 4000000
namespace L2
open PySem PySem.Spec PyProof.Rows
def ExcAt (a C : Addr) (h : Heap) : Prop := ∃ o vs, h.get? a = some o ∧ o.cls = .ref C ∧ o.data = .fields vs
def excD (C : Addr) : PyData := .dict [(.none, .int (C : Int))]
def ExcDAt (a C dx : Addr) (h : Heap) : Prop := ∃ o vs, h.get? a = some o ∧ o.cls = .ref C ∧ o.data = .fields vs ∧ o.dict = some dx
def excRD (C : Addr) (n : Int) : PyData := .dict [(.none, .int (C : Int)), (.none, .int n)]
def excC : List (PyData × PyData) → Option Addr
  | [(.none, .int i)] => some i.toNat
  | [(.none, .int i), (.none, .int _)] => some i.toNat
  | (.none, .tuple [.int i]) :: _ => some i.toNat
  | (.bool true, _) :: _ => some 0
  | _ => none
def objD (C : Addr) (es : List (PyData × PyData)) : PyData := .dict ((.none, .tuple [.int (C : Int)]) :: es)
def isObD : PyData → Bool
  | .dict ((.none, .tuple _) :: _) => true
  | .dict ((.bool true, _) :: _) => true
  | _ => false
theorem excC_obj (i : Int) (es : List (PyData × PyData)) : excC ((.none, .tuple [.int i]) :: es) = some i.toNat := by
  cases es with
  | nil => rfl
  | cons y ys => cases ys <;> rfl
def keyD : Key → PyData
  | .inl i => .int i
  | .inr x => .str x
def ppE (m : List ((Int × Int) × Int)) : List (PyData × PyData) := (.bool true, .none) :: m.map fun q => (.tuple [.int q.1.1, .int q.1.2], .int q.2)
def ppK (m : List ((Int × Int) × Int)) : List (List Key × V) := m.map fun q => ([.inl q.1.1, .inl q.1.2], V.int q.2)
def fldsAll : List Str := ["start", "text", "rows", "ways", "atoms", "numbers", "rights", "memory", "box_words", "here", "truth_pair", "told_words", "stored_cells", "done_count", "led"]
mutual
inductive DV (K : PySem.W.Frag) (H : Hp) : V → PyData → Prop where
  | non : DV K H .non .none
  | bl (b : Bool) : DV K H (.bl b) (.bool b)
  | int (i : Int) : DV K H (.int i) (.int i)
  | str (x : Str) : DV K H (.str x) (.str x)
  | tup {a : Addr} {xs : List V} {ds : List PyData} : SqT K H a xs → DVs K H xs ds → DV K H (.ref a) (.tuple ds)
  | lst {a : Addr} {xs : List V} {ds : List PyData} : SqL K H a xs → DVs K H xs ds → DV K H (.ref a) (.list ds)
  | dct {a : Addr} {kvs : List (Key × V)} {es : List (PyData × PyData)} : H a = some (.dK kvs) → DVk K H kvs es → DV K H (.ref a) (.dict es)
  | exc {a C : Addr} : H a = some (.ext (ExcAt a C)) → DV K H (.ref a) (.dict [(.none, .int (C : Int))])
  | exr {a C dx : Addr} {n : Int} : H a = some (.ext (ExcDAt a C dx)) → H dx = some (.xd [("row", .int n)]) → DV K H (.ref a) (.dict [(.none, .int (C : Int)), (.none, .int n)])
  | obj {a C dx : Addr} {fs : List (Str × V)} {es : List (PyData × PyData)} : H a = some (.ins C dx fs) → (∀ m : Str, m ∉ fldsAll → fs.lookup m = none) → DVf K H fs es → DV K H (.ref a) (.dict ((.none, .tuple [.int (C : Int)]) :: es))
  | dtt {a : Addr} {m : List ((Int × Int) × Int)} : H a = some (.dT (ppK m)) → DV K H (.ref a) (.dict (ppE m))
inductive DVs (K : PySem.W.Frag) (H : Hp) : List V → List PyData → Prop where
  | nil : DVs K H [] []
  | cons {x : V} {d : PyData} {xs : List V} {ds : List PyData} : DV K H x d → DVs K H xs ds → DVs K H (x :: xs) (d :: ds)
inductive DVk (K : PySem.W.Frag) (H : Hp) : List (Key × V) → List (PyData × PyData) → Prop where
  | nil : DVk K H [] []
  | cons {k : Key} {x : V} {d : PyData} {xs : List (Key × V)} {ds : List (PyData × PyData)} : DV K H x d → DVk K H xs ds → DVk K H ((k, x) :: xs) ((keyD k, d) :: ds)
inductive DVf (K : PySem.W.Frag) (H : Hp) : List (Str × V) → List (PyData × PyData) → Prop where
  | nil {fs : List (Str × V)} : DVf K H fs []
  | cons {fs : List (Str × V)} {f : Str} {x : V} {d : PyData} {ds : List (PyData × PyData)} : fs.lookup f = some x → DV K H x d → DVf K H fs ds → DVf K H fs ((.str f, d) :: ds)
end
theorem Same.seqT {K : PySem.W.Frag} {H H' : Hp} {a : Addr} {xs : List V} (e : Same H H') (h : SqT K H a xs) : SqT K H' a xs := by
  rcases h with (h | ⟨o, h⟩) | h
  · exact .inl (.inl (e _ _ h))
  · exact .inl (.inr ⟨o, e _ _ h⟩)
  · exact .inr h
section
variable {K : PySem.W.Frag} {H H' : Hp}
mutual
theorem DV.mono (e : Same H H') : ∀ {v : V} {d : PyData}, DV K H v d → DV K H' v d
  | _, _, .non => .non
  | _, _, .bl b => .bl b
  | _, _, .int i => .int i
  | _, _, .str x => .str x
  | _, _, .tup h t => .tup (e.seqT h) (DVs.mono e t)
  | _, _, .lst h t => .lst (e.seq h) (DVs.mono e t)
  | _, _, .dct h t => .dct (e _ _ h) (DVk.mono e t)
  | _, _, .exc h => .exc (e _ _ h)
  | _, _, .exr h h' => .exr (e _ _ h) (e _ _ h')
  | _, _, .obj h n t => .obj (e _ _ h) n (DVf.mono e t)
  | _, _, .dtt h => .dtt (e _ _ h)
theorem DVs.mono (e : Same H H') : ∀ {vs : List V} {ds : List PyData}, DVs K H vs ds → DVs K H' vs ds
  | _, _, .nil => .nil
  | _, _, .cons h t => .cons (DV.mono e h) (DVs.mono e t)
theorem DVk.mono (e : Same H H') : ∀ {vs : List (Key × V)} {ds : List (PyData × PyData)}, DVk K H vs ds → DVk K H' vs ds
  | _, _, .nil => .nil
  | _, _, .cons h t => .cons (DV.mono e h) (DVk.mono e t)
theorem DVf.mono (e : Same H H') : ∀ {vs : List (Str × V)} {ds : List (PyData × PyData)}, DVf K H vs ds → DVf K H' vs ds
  | _, _, .nil => .nil
  | _, _, .cons l h t => .cons l (DV.mono e h) (DVf.mono e t)
end
theorem DVs.length : ∀ {vs : List V} {ds : List PyData}, DVs K H vs ds → vs.length = ds.length
  | _, _, .nil => rfl
  | _, _, .cons _ t => by rw [List.length_cons, List.length_cons, DVs.length t]
theorem DVs.get : ∀ {vs : List V} {ds : List PyData} {i : Nat} {d : PyData}, DVs K H vs ds → ds[i]? = some d → ∃ v, vs[i]? = some v ∧ DV K H v d
  | _, _, _, _, .nil, e => by simp at e
  | _, _, 0, _, .cons h _, e => by simp at e; subst e; exact ⟨_, rfl, h⟩
  | _, _, i + 1, d, .cons _ t, e => by
    obtain ⟨v, h1, h2⟩ := DVs.get (i := i) (d := d) t (by simpa using e)
    exact ⟨v, by simpa using h1, h2⟩
theorem DVs.get' : ∀ {vs : List V} {ds : List PyData} {i : Nat} {v : V}, DVs K H vs ds → vs[i]? = some v → ∃ d, ds[i]? = some d ∧ DV K H v d
  | _, _, _, _, .nil, e => by simp at e
  | _, _, 0, _, .cons h _, e => by simp at e; subst e; exact ⟨_, rfl, h⟩
  | _, _, i + 1, d, .cons _ t, e => by
    obtain ⟨v, h1, h2⟩ := DVs.get' (i := i) (v := d) t (by simpa using e)
    exact ⟨v, by simpa using h1, h2⟩
theorem DVs.append : ∀ {vs ws : List V} {ds es : List PyData}, DVs K H vs ds → DVs K H ws es → DVs K H (vs ++ ws) (ds ++ es)
  | _, _, _, _, .nil, s => s
  | _, _, _, _, .cons h t, s => .cons h (DVs.append t s)
theorem DVs.take : ∀ {vs : List V} {ds : List PyData} (n : Nat), DVs K H vs ds → DVs K H (vs.take n) (ds.take n)
  | _, _, 0, _ => .nil
  | _, _, _ + 1, .nil => .nil
  | _, _, n + 1, .cons h t => .cons h (DVs.take n t)
theorem DVs.drop : ∀ {vs : List V} {ds : List PyData} (n : Nat), DVs K H vs ds → DVs K H (vs.drop n) (ds.drop n)
  | _, _, 0, r => r
  | _, _, _ + 1, .nil => .nil
  | _, _, n + 1, .cons _ t => DVs.drop n t
theorem DVs.of_ints : ∀ {vs : List V} {ns : List Int}, DVs K H vs (ns.map PyData.int) → vs = ns.map V.int
  | _, [], .nil => rfl
  | _, n :: r, .cons h t => by cases h; rw [DVs.of_ints t]; rfl
theorem DVs.of_bools : ∀ {vs : List V} {ns : List Bool}, DVs K H vs (ns.map PyData.bool) → vs = ns.map V.bl
  | _, [], .nil => rfl
  | _, n :: r, .cons h t => by cases h; rw [DVs.of_bools t]; rfl
theorem DV.of_int {v : V} {i : Int} (h : DV K H v (.int i)) : v = .int i := by cases h; rfl
theorem DV.of_bl {v : V} {i : Bool} (h : DV K H v (.bool i)) : v = .bl i := by cases h; rfl
theorem DV.of_str {v : V} {i : Str} (h : DV K H v (.str i)) : v = .str i := by cases h; rfl
theorem DV.of_tup {v : V} {ds : List PyData} (h : DV K H v (.tuple ds)) : ∃ a xs, v = .ref a ∧ SqT K H a xs ∧ DVs K H xs ds := by cases h with | tup h t => exact ⟨_, _, rfl, h, t⟩
theorem DV.of_dct {v : V} {es : List (PyData × PyData)} (h : DV K H v (.dict es)) (hx : excC es = none) : ∃ a kvs, v = .ref a ∧ H a = some (.dK kvs) ∧ DVk K H kvs es := by
  cases h with
  | dct h t => exact ⟨_, _, rfl, h, t⟩
  | exc h => cases hx
  | exr h h' => cases hx
  | obj h n t => rw [excC_obj] at hx; cases hx
  | dtt h => unfold ppE excC at hx; cases hx
theorem excC_dvk {kvs : List (Key × V)} {es : List (PyData × PyData)} (h : DVk K H kvs es) : excC es = none := by
  cases h with
  | nil => rfl
  | cons h t =>
    rename_i k x d xs ds
    cases t with
    | nil => cases k <;> cases d <;> rfl
    | cons h2 t2 => rename_i k2 x2 d2 xs2 ds2; cases k <;> cases d <;> cases k2 <;> cases d2 <;> cases ds2 <;> rfl
theorem DV.of_objN {v : V} {C : Addr} {es : List (PyData × PyData)} (h : DV K H v (objD C es)) : ∃ a dx fs, v = .ref a ∧ H a = some (.ins C dx fs) ∧ DVf K H fs es ∧ ∀ m : Str, m ∉ fldsAll → fs.lookup m = none := by
  unfold objD at h
  generalize ei : ((C : Nat) : Int) = i at h
  generalize ee : PyData.dict ((.none, .tuple [.int i]) :: es) = e at h
  cases h with
  | dct h t =>
    injection ee with ee
    subst ee
    have z := excC_dvk t
    rw [excC_obj] at z
    cases z
  | obj h n t =>
    injection ee with ee
    injection ee with ee e2
    injection ee with _ ee
    injection ee with ee
    injection ee with ee _
    injection ee with ee
    have : C = _ := Int.ofNat.inj (ei.trans ee)
    subst this e2
    exact ⟨_, _, _, rfl, h, t, n⟩
  | _ => cases ee
theorem DVf.get : ∀ {fs : List (Str × V)} {es : List (PyData × PyData)} {f : Str} {d : PyData}, DVf K H fs es → (.str f, d) ∈ es → ∃ v, fs.lookup f = some v ∧ DV K H v d
  | _, _, _, _, .nil, h => by cases h
  | _, _, f, d, .cons l q t, h => by
    rcases List.mem_cons.mp h with e | e
    · injection e with e1 e2
      injection e1 with e1
      subst e1 e2
      exact ⟨_, l, q⟩
    · exact DVf.get t e
theorem DV.of_lst {v : V} {ds : List PyData} (h : DV K H v (.list ds)) : ∃ a xs, v = .ref a ∧ SqL K H a xs ∧ DVs K H xs ds := by cases h with | lst h t => exact ⟨_, _, rfl, h, t⟩
end
mutual
theorem DV.reads {X : Cx} {pins : List (Addr × Obj)} {σ : St} {H : Hp} {s : Shared} (I : Inv X pins σ H s) : ∀ {v : V} {d : PyData} {u : Value}, DV X.K H v d → RelV v u → d.canLay0 = true → ∃ as, Reads s.heap u d as
  | _, _, _, .non, r, _ => ⟨[], by rw [show _ = Value.none from r]; exact .none⟩
  | _, _, _, .bl b, r, _ => ⟨[], by rw [show _ = Value.bool b from r]; exact .bool b⟩
  | _, _, _, .int i, r, _ => let ⟨t, e⟩ := r; ⟨[], by rw [e]; exact .int i t⟩
  | _, _, _, .str x, r, _ => let ⟨t, e⟩ := r; ⟨[], by rw [e]; exact .str x t⟩
  | _, _, _, .tup h t, r, c => by
    rw [show _ = Value.ref _ from r]
    obtain ⟨its, rv, ⟨o, e1, e2, n, e3⟩, _⟩ := I.tuple h
    obtain ⟨as, q⟩ := DVs.reads I t rv (by unfold PyData.canLay0 at c; exact c)
    exact ⟨_, .tuple e1 e2 e3 (by simpa using q)⟩
  | _, _, _, .lst h t, r, c => by
    rw [show _ = Value.ref _ from r]
    obtain ⟨its, rv, pl, _⟩ := I.list h
    obtain ⟨o, e1, e2, n, e3⟩ := pl.isList
    obtain ⟨as, q⟩ := DVs.reads I t rv (by unfold PyData.canLay0 at c; exact c)
    exact ⟨_, .list e1 e2 e3 (by simpa using q)⟩
  | _, _, _, .dct h t, r, c => by simp [PyData.canLay0] at c
  | _, _, _, .exc h, r, c => by simp [PyData.canLay0] at c
  | _, _, _, .exr h h', r, c => by simp [PyData.canLay0] at c
  | _, _, _, .obj h n t, r, c => by simp [PyData.canLay0] at c
  | _, _, _, .dtt h, r, c => by simp [PyData.canLay0] at c
theorem DVs.reads {X : Cx} {pins : List (Addr × Obj)} {σ : St} {H : Hp} {s : Shared} (I : Inv X pins σ H s) : ∀ {vs : List V} {ds : List PyData} {us : List Value}, DVs X.K H vs ds → Vals vs us → PyData.canLayAll0 ds = true → ∃ as, ReadsAll s.heap us ds as
  | _, _, _, .nil, .nil, _ => ⟨_, .nil⟩
  | _, _, _, .cons h t, .cons r rs, c => by
    unfold PyData.canLayAll0 at c
    rw [Bool.and_eq_true] at c
    obtain ⟨a1, q1⟩ := DV.reads I h r c.1
    obtain ⟨a2, q2⟩ := DVs.reads I t rs c.2
    exact ⟨_, .cons q1 q2⟩
end
abbrev Gam := List (Option PyData)
def SD (K : PySem.W.Frag) (H : Hp) (σ : St) (G : Gam) : Prop := σ.length = G.length ∧ ∀ (i : Nat) d, G[i]? = some (some d) → ∃ v, σ[i]? = some (some v) ∧ DV K H v d
theorem SD.mono {K : PySem.W.Frag} {H H' : Hp} {σ : St} {G : Gam} (h : SD K H σ G) (e : Same H H') : SD K H' σ G := ⟨h.1, fun i d z => let ⟨v, a, b⟩ := h.2 i d z; ⟨v, a, b.mono e⟩⟩
theorem SD.set {K : PySem.W.Frag} {H : Hp} {σ : St} {G : Gam} {i : Nat} {v : V} {d : PyData} (h : SD K H σ G) (q : DV K H v d) : SD K H (σ.set i (some v)) (G.set i (some d)) := by
  refine ⟨by rw [List.length_set, List.length_set, h.1], fun j e z => ?_⟩
  by_cases hj : i = j
  · subst hj
    by_cases hl : i < G.length
    · rw [List.getElem?_set_self hl] at z
      cases z
      exact ⟨v, List.getElem?_set_self (by rw [h.1]; exact hl), q⟩
    · rw [List.getElem?_eq_none (by rw [List.length_set]; omega)] at z
      cases z
  · rw [List.getElem?_set_ne hj] at z
    obtain ⟨w, a, b⟩ := h.2 j e z
    exact ⟨w, by rw [List.getElem?_set_ne hj]; exact a, b⟩
def tD (K : PySem.W.Frag) (G : Gam) (d : PyData) : TE := fun σ H Q => SD K H σ G ∧ ∀ v H', Same H H' → DV K H' v d → Q v H'
def tDT (K : PySem.W.Frag) (G : Gam) (b : Bool) : TT := fun σ H Q => SD K H σ G ∧ ∀ H', Same H H' → Q b H'
def tDA (K : PySem.W.Frag) (G : Gam) (ds : List PyData) : TA := fun σ H Q => SD K H σ G ∧ ∀ vs H', Same H H' → DVs K H' vs ds → Q vs H'
inductive Out where
  | next (G : Gam) | ret (d : PyData)
def tDS (K : PySem.W.Frag) (G : Gam) (o : Out) : TS := fun D σ H => SD K H σ G ∧ match o with
  | .next G' => ∀ σ' H', Same H H' → SD K H' σ' G' → D.nx σ' H'
  | .ret d => ∀ v H', Same H H' → DV K H' v d → D.rt v H'
abbrev EV (X : Cx) (G : Gam) (e : Expr) (d : PyData) : Prop := PE X e (tD X.K G d)
abbrev TV (X : Cx) (G : Gam) (e : Expr) (b : Bool) : Prop := PT X e (tDT X.K G b)
abbrev WV (X : Cx) (G : Gam) (e : Expr) (b : Bool) : Prop := PW X e (tDT X.K G b)
abbrev AV (X : Cx) (G : Gam) (es : List Expr) (ds : List PyData) : Prop := PA X es (tDA X.K G ds)
abbrev SV (X : Cx) (G : Gam) (st : Stmt) (o : Out) : Prop := PS X st (tDS X.K G o)
abbrev SVs (X : Cx) (G : Gam) (st : List Stmt) (o : Out) : Prop := PSs X st (tDS X.K G o)
section
variable {X : Cx} {G : Gam} {a b c e : Expr} {es : List Expr} {pos : Pos} {d da db dc : PyData}
theorem PE.imp {t t' : TE} (h : PE X e t) (m : ∀ σ H Q, t' σ H Q → t σ H Q) : PE X e t' := fun pins s σ H Q I q => h pins s σ H Q I (m σ H Q q)
theorem PT.imp {t t' : TT} (h : PT X e t) (m : ∀ σ H Q, t' σ H Q → t σ H Q) : PT X e t' := fun pins s σ H Q I q => h pins s σ H Q I (m σ H Q q)
theorem PW.imp {t t' : TT} (h : PW X e t) (m : ∀ σ H Q, t' σ H Q → t σ H Q) : PW X e t' := fun w pins s σ H Q I q => h w pins s σ H Q I (m σ H Q q)
theorem PA.imp {t t' : TA} (h : PA X es t) (m : ∀ σ H Q, t' σ H Q → t σ H Q) : PA X es t' := fun p pins s σ H Q I q => h p pins s σ H Q I (m σ H Q q)
theorem PS.imp {st : Stmt} {t t' : TS} (h : PS X st t) (m : ∀ D σ H, t' D σ H → t D σ H) : PS X st t' := fun pins s σ H D I q => h pins s σ H D I (m D σ H q)
theorem PSs.imp {st : List Stmt} {t t' : TS} (h : PSs X st t) (m : ∀ D σ H, t' D σ H → t D σ H) : PSs X st t' := fun pins s σ H D I q => h pins s σ H D I (m D σ H q)
theorem OpR.imp {f : Value → Value → Sem Value} {r r' : R2} (h : OpR X f r) (m : ∀ x y H Q, r' x y H Q → r x y H Q) : OpR X f r' := fun pins s σ H x y v u Q I rx ry q => h pins s σ H x y v u Q I rx ry (m x y H Q q)
theorem CallR.imp {f : Value} {r r' : List V → Hp → VK → Prop} (h : CallR X f r) (m : ∀ xs H Q, r' xs H Q → r xs H Q) : CallR X f r' := fun pins s σ H xs us Q I rs q => h pins s σ H xs us Q I rs (m xs H Q q)
theorem ev_var (i : Nat) {x : Str} (hG : G[i]? = some (some d)) (hp : PE X (.Name x pos) (tVar i)) : EV X G (.Name x pos) d := hp.imp fun σ H Q ⟨h, k⟩ => by
  obtain ⟨v, a, b⟩ := h.2 i d hG
  exact ⟨v, a, k v H (Same.refl H) b⟩
theorem ev_int {i j} : EV X G (.Constant (.int i) j pos) (.int i) := pe_int.imp fun σ H Q ⟨h, k⟩ => k _ H (Same.refl H) (.int i)
theorem ev_bl {i j} : EV X G (.Constant (.bool i) j pos) (.bool i) := pe_bl.imp fun σ H Q ⟨h, k⟩ => k _ H (Same.refl H) (.bl i)
theorem ev_non {j} : EV X G (.Constant .none j pos) .none := pe_non.imp fun σ H Q ⟨h, k⟩ => k _ H (Same.refl H) .non
def rD (K : PySem.W.Frag) (da db d : PyData) : R2 := fun x y H Q => DV K H x da ∧ DV K H y db ∧ ∀ v H', Same H H' → DV K H' v d → Q v H'
abbrev OD (X : Cx) (f : Value → Value → Sem Value) (da db d : PyData) : Prop := OpR X f (rD X.K da db d)
theorem tOp_D {r : R2} {σ : St} {H : Hp} {Q : VK} {K : PySem.W.Frag} (h : SD K H σ G) (k : ∀ x y H', Same H H' → DV K H' x da → DV K H' y db → r x y H' Q) : tOp r (tD K G da) (tD K G db) σ H Q :=
  ⟨h, fun x H1 s1 d1 => ⟨h.mono s1, fun y H2 s2 d2 => k x y H2 (s1.trans s2) (d1.mono s2) d2⟩⟩
theorem ev_bin {op : Operator} (ha : EV X G a da) (hb : EV X G b db) (ho : OD X (binaryOp op) da db d) : EV X G (.BinOp a op b pos) d :=
  (pe_op ho ha hb).imp fun σ H Q ⟨h, k⟩ => tOp_D h fun x y H' s' d1 d2 => ⟨d1, d2, fun v H2 s2 dv => k v H2 (s'.trans s2) dv⟩
theorem ev_cmp {op : CmpOp} (ha : EV X G a da) (hb : EV X G b db) (ho : OD X (compareOp op) da db d) (hm : behindInMarks op b = false) : EV X G (.Compare a [op] [b] pos) d :=
  (pe_cmpR ho ha hb hm).imp fun σ H Q ⟨h, k⟩ => tOp_D h fun x y H' s' d1 d2 => ⟨d1, d2, fun v H2 s2 dv => k v H2 (s'.trans s2) dv⟩
theorem tv_cmp {op : CmpOp} {k : Bool} (ha : EV X G a da) (hb : EV X G b db) (ho : OD X (compareOp op) da db (.bool k)) (hm : behindInMarks op b = false) : TV X G (.Compare a [op] [b] pos) k :=
  (pt_cmpR ho ha hb hm).imp fun σ H Q ⟨h, kk⟩ => tOp_D h fun x y H' s' d1 d2 => ⟨d1, d2, fun v H2 s2 dv => ⟨k, dv.of_bl, kk H2 (s'.trans s2)⟩⟩
theorem od_rI0 {f : Value → Value → Sem Value} {i j : Int} {g : Int → Int → V} (h : OpR X f (rI0 g)) (hd : ∀ H, DV X.K H (g i j) d) : OD X f (.int i) (.int j) d :=
  h.imp fun x y H Q ⟨h1, h2, k⟩ => ⟨i, j, h1.of_int, h2.of_int, k _ H (Same.refl H) (hd H)⟩
theorem od_rI {f : Value → Value → Sem Value} {i j : Int} {C : Int → Int → Prop} {g : Int → Int → V} (h : OpR X f (rI C g)) (hc : C i j) (hd : ∀ H, DV X.K H (g i j) d) : OD X f (.int i) (.int j) d :=
  h.imp fun x y H Q ⟨h1, h2, k⟩ => ⟨i, j, h1.of_int, h2.of_int, hc, k _ H (Same.refl H) (hd H)⟩
theorem od_eq {k : Bool} (hu : X.A.units + 64 < cLine) (ha : da.canLay0 = true) (hb : db.canLay0 = true) (hd : min da.depth db.depth ≤ 60) (hk : PyData.eqv da db = k) : OD X (compareOp .Eq) da db (.bool k) := by
  intro pins s σ H x y v u Q I rx ry ⟨h1, h2, q⟩
  obtain ⟨as, r1⟩ := h1.reads I rx ha
  obtain ⟨bs, r2⟩ := h2.reads I ry hb
  refine PySem.SeqAt.compareEq_reads r1 r2 ha hb (by omega) ⟨.bl _, H, I, rfl, q _ H (Same.refl H) ?_⟩
  rw [hk]
  exact .bl k
theorem od_ne {k : Bool} (hu : X.A.units + 64 < cLine) (ha : da.canLay0 = true) (hb : db.canLay0 = true) (hd : min da.depth db.depth ≤ 60) (hk : (!PyData.eqv da db) = k) : OD X (compareOp .NotEq) da db (.bool k) := by
  intro pins s σ H x y v u Q I rx ry ⟨h1, h2, q⟩
  obtain ⟨as, r1⟩ := h1.reads I rx ha
  obtain ⟨bs, r2⟩ := h2.reads I ry hb
  refine PySem.SeqAt.compareNe_reads r1 r2 ha hb (by omega) ⟨.bl _, H, I, rfl, q _ H (Same.refl H) ?_⟩
  rw [hk]
  exact .bl k
end
end L2
set_option maxRecDepth 100000
set_option maxHeartbeats 4000000
namespace L2
open PySem PySem.Spec PyProof.Rows
section
variable {X : Cx} {G : Gam} {a b c e : Expr} {es rest : List Expr} {pos : Pos} {d da db dc : PyData}
theorem Same.new {H : Hp} {p : Addr} {o : HO} (h : H p = none) : Same H (upd H p o) := fun b u e => by rw [upd_ne (ne_of_none e h)]; exact e
theorem tv_val {k : Bool} (h : EV X G e (.bool k)) (he : ∀ whole, isTrue e X.env whole = (do let v ← whole; standAt e.pos; holding [v] (truthy v)) := by intro _; rfl) : TV X G e k :=
  (pt_val h he).imp fun σ H Q ⟨h, q⟩ => ⟨h, fun v H' s' dv => ⟨k, dv.of_bl, q H' s'⟩⟩
theorem wv_and1 {k : Bool} (h : TV X G a k) : WV X G (.BoolOp .And [a] pos) k := pw_and1 h
theorem wv_or1 {k : Bool} (h : TV X G a k) : WV X G (.BoolOp .Or [a] pos) k := pw_or1 h
theorem wv_and {k k' : Bool} (h : TV X G a k) (h2 : k = true → WV X G (.BoolOp .And (b :: rest) pos) k') : WV X G (.BoolOp .And (a :: b :: rest) pos) (k && k') := by
  cases k with
  | true => exact (pw_and h (h2 rfl)).imp fun σ H Q ⟨h, q⟩ => ⟨h, fun H' s' => (by simp only [if_true]; exact ⟨h.mono s', fun H2 s2 => q H2 (s'.trans s2)⟩)⟩
  | false =>
    intro wh pins s σ H Q I ⟨h1, q⟩
    refine isTrue_and (thn (h pins s σ H (fun c H1 => c = false ∧ Q false H1) I ⟨h1, fun H' s' => ⟨rfl, q H' s'⟩⟩) fun c s1 ⟨H1, I1, e1, q1⟩ => ?_)
    subst e1
    exact ⟨H1, I1, q1⟩
theorem wv_or {k k' : Bool} (h : TV X G a k) (h2 : k = false → WV X G (.BoolOp .Or (b :: rest) pos) k') : WV X G (.BoolOp .Or (a :: b :: rest) pos) (k || k') := by
  cases k with
  | false => exact (pw_or h (h2 rfl)).imp fun σ H Q ⟨h, q⟩ => ⟨h, fun H' s' => (by simp only [Bool.false_eq_true, if_false]; exact ⟨h.mono s', fun H2 s2 => q H2 (s'.trans s2)⟩)⟩
  | true =>
    intro wh pins s σ H Q I ⟨h1, q⟩
    refine isTrue_or (thn (h pins s σ H (fun c H1 => c = true ∧ Q true H1) I ⟨h1, fun H' s' => ⟨rfl, q H' s'⟩⟩) fun c s1 ⟨H1, I1, e1, q1⟩ => ?_)
    subst e1
    exact ⟨H1, I1, q1⟩
theorem tv_w {k : Bool} (h : WV X G e k) : TV X G e k := h.pt
theorem tv_not {k : Bool} (h : TV X G a k) : TV X G (.UnaryOp .Not a pos) (!k) := (pt_not h).imp fun σ H Q ⟨h, q⟩ => ⟨h, fun H' s' => q H' s'⟩
theorem ev_not {k : Bool} (h : EV X G a (.bool k)) : EV X G (.UnaryOp .Not a pos) (.bool (!k)) := (pe_not h).imp fun σ H Q ⟨h, q⟩ => ⟨h, fun v H' s' dv => ⟨k, dv.of_bl, q _ H' s' (.bl _)⟩⟩
theorem ev_one {op} (h : EV X G a d) : EV X G (.BoolOp op [a] pos) d := pe_one h
theorem ev_and {k : Bool} (h : EV X G a (.bool k)) (h2 : k = true → EV X G (.BoolOp .And (b :: rest) pos) d) (h3 : k = false → d = .bool false) : EV X G (.BoolOp .And (a :: b :: rest) pos) d := by
  cases k with
  | true => exact (pe_and h (h2 rfl)).imp fun σ H Q ⟨h, q⟩ => ⟨h, fun v H' s' dv => ⟨true, dv.of_bl, by simp only [if_true]; exact ⟨h.mono s', fun v2 H2 s2 d2 => q v2 H2 (s'.trans s2) d2⟩⟩⟩
  | false =>
    intro pins s σ H Q I ⟨h1, q⟩
    refine BoolOp_and (thn (h pins s σ H (fun v H1 => v = .bl false ∧ Q (.bl false) H1) I ⟨h1, fun v H' s' dv => ⟨dv.of_bl, q _ H' s' (by rw [h3 rfl]; exact .bl _)⟩⟩) fun v s1 ⟨x, H1, I1, r1, e1, q1⟩ => ?_)
    subst e1
    cases r1
    exact wpAny_truthy_bool ⟨.bl false, H1, I1, rfl, q1⟩
theorem od_add {i j : Int} : OD X (binaryOp .Add) (.int i) (.int j) (.int (i + j)) := od_rI0 op_add fun H => .int _
theorem od_sub {i j : Int} : OD X (binaryOp .Sub) (.int i) (.int j) (.int (i - j)) := od_rI0 op_sub fun H => .int _
theorem od_mul {i j : Int} (h : CMul i j) : OD X (binaryOp .Mult) (.int i) (.int j) (.int (i * j)) := od_rI op_mul h fun H => .int _
theorem od_fdiv {i j : Int} (h : CDiv i j) : OD X (binaryOp .FloorDiv) (.int i) (.int j) (.int (i / j)) := od_rI op_fdiv h fun H => .int _
theorem od_mod {i j : Int} (h : 0 < j) : OD X (binaryOp .Mod) (.int i) (.int j) (.int (i % j)) := od_rI op_mod h fun H => .int _
theorem od_pow {i j : Int} (h : CPow i j) : OD X (binaryOp .Pow) (.int i) (.int j) (.int (i ^ j.toNat)) := od_rI op_pow h fun H => .int _
theorem od_xor {i j : Int} : OD X (binaryOp .BitXor) (.int i) (.int j) (.int (Builtin.bitXor i j)) := od_rI0 op_xor fun H => .int _
theorem od_lt {i j : Int} : OD X (compareOp .Lt) (.int i) (.int j) (.bool (decide (i < j))) := od_rI0 op_lt fun H => .bl _
theorem od_le {i j : Int} : OD X (compareOp .LtE) (.int i) (.int j) (.bool (decide (i ≤ j))) := od_rI0 op_le fun H => .bl _
theorem od_gt {i j : Int} : OD X (compareOp .Gt) (.int i) (.int j) (.bool (decide (j < i))) := od_rI0 op_gt fun H => .bl _
theorem od_ge {i j : Int} : OD X (compareOp .GtE) (.int i) (.int j) (.bool (decide (j ≤ i))) := od_rI0 op_ge fun H => .bl _
theorem od_catL {xs ys : List PyData} (hz : xs.length + ys.length ≤ sizeLine) : OD X (binaryOp .Add) (.list xs) (.list ys) (.list (xs ++ ys)) := by
  intro pins s σ H x y v u Q I rx ry ⟨h1, h2, q⟩
  obtain ⟨l, us, rfl, hl, d1⟩ := h1.of_lst
  obtain ⟨m, ws, rfl, hm, d2⟩ := h2.of_lst
  cases rx
  cases ry
  obtain ⟨its, r, pl, _⟩ := I.list hl
  obtain ⟨its2, r2, pl2, _⟩ := I.list hm
  obtain ⟨⟨cls, dd, data, sl⟩, ho, hc, n, hd⟩ := pl.isList
  obtain ⟨⟨cls2, dd2, data2, sl2⟩, ho2, hc2, n2, hd2⟩ := pl2.isList
  simp only at hc hd hc2 hd2
  subst hc hd hc2 hd2
  have hn : its.toArray.size + its2.toArray.size ≤ sizeLine := by rw [List.size_toArray, List.size_toArray, ← r.length, ← r2.length, d1.length, d2.length]; exact hz
  refine concat_meets ⟨_, ho, rfl⟩ ⟨_, ho2, rfl⟩ noFill_list_add seq_list_add PySem.F.slot_list_add PySem.F.entry_list_add (PySem.F.args_list_add_2 _ _) (list_addW l m its.toArray its2.toArray n n2 dd dd2 sl sl2 hn) ⟨ho, ho2, ?_⟩
  have ea : its.toArray ++ its2.toArray = (its ++ its2).toArray := by simp
  rw [ea]
  have hf := I.hok.fresh (Nat.le_refl _)
  refine ⟨.ref s.heap.objs.size, _, I.laid (t' := s.toks) (o := .lst (us ++ ws)) (fun b o e => Heap.get?_push_of_some _ e) (Nat.le_refl _) ⟨by rw [List.length_append, d1.length, d2.length]; exact hz, its ++ its2, 0, r.append r2, Heap.get?_push_size _ rfl⟩, rfl, q _ _ (Same.new hf) ?_⟩
  exact .lst (SqL.of upd_same) ((d1.append d2).mono (Same.new hf))
theorem od_catT {xs ys : List PyData} (hx : xs ≠ []) (hz : xs.length + ys.length ≤ sizeLine) : OD X (binaryOp .Add) (.tuple xs) (.tuple ys) (.tuple (xs ++ ys)) :=
  op_catT.imp fun x y H Q ⟨h1, h2, q⟩ => by
    obtain ⟨l, us, rfl, hl, d1⟩ := h1.of_tup
    obtain ⟨m, ws, rfl, hm, d2⟩ := h2.of_tup
    refine ⟨l, m, us, ws, rfl, rfl, hl, hm, fun z => hx ?_, by rw [d1.length, d2.length]; exact hz, fun z => ?_, fun z p hp => ?_⟩
    · subst z
      cases d1
      rfl
    · subst z
      cases d2
      rw [List.append_nil] at q
      exact q _ H (Same.refl H) (.tup hl d1)
    · exact q _ _ (Same.new hp) (.tup (SqT.of upd_same) ((d1.append d2).mono (Same.new hp)))
def flatD : PyData → Bool
  | .none => true
  | .bool _ => true
  | .int _ => true
  | .str _ => true
  | _ => false
theorem DV.flat {K : PySem.W.Frag} {H : Hp} {v : V} {d : PyData} (h : DV K H v d) (f : flatD d = true) : flatV v = true := by
  cases h <;> first | rfl | cases f
theorem DVs.flat {K : PySem.W.Frag} {H : Hp} : ∀ {vs : List V} {ds : List PyData}, DVs K H vs ds → ds.all flatD = true → vs.all flatV = true
  | _, _, .nil, _ => rfl
  | _, _, .cons h t, f => by
    rw [List.all_cons, Bool.and_eq_true] at f ⊢
    exact ⟨h.flat f.1, DVs.flat t f.2⟩
theorem DV.eqV_eqv {K : PySem.W.Frag} {H : Hp} {v w : V} {d e : PyData} (h : DV K H v d) (h' : DV K H w e) (f : flatD d = true) (f' : flatD e = true) : eqV v w = PyData.eqv d e := by
  cases h <;> cases h' <;> first | rfl | (simp [flatD] at f; done) | (simp [flatD] at f'; done)
theorem DVs.inV {K : PySem.W.Frag} {H : Hp} {v : V} {d : PyData} (h : DV K H v d) (f : flatD d = true) : ∀ {vs : List V} {ds : List PyData}, DVs K H vs ds → ds.all flatD = true → inV v vs = ds.any fun e => PyData.eqv e d
  | _, _, .nil, _ => rfl
  | _, _, .cons h' t, fs => by
    rw [List.all_cons, Bool.and_eq_true] at fs
    have ih := DVs.inV h f t fs.2
    unfold L2.inV at ih ⊢
    rw [List.any_cons, List.any_cons, ih, h'.eqV_eqv h fs.1 f]
theorem od_in {xs : List PyData} {k : Bool} (hs : db = .list xs ∨ db = .tuple xs) (f : flatD da = true) (fs : xs.all flatD = true) (hk : (xs.any fun e => PyData.eqv e da) = k) : OD X (compareOp .In) da db (.bool k) :=
  op_in_seq.imp fun x y H Q ⟨h1, h2, q⟩ => by
    have z : ∃ p us, y = .ref p ∧ (SqL X.K H p us ∨ SqT X.K H p us) ∧ DVs X.K H us xs := by
      rcases hs with rfl | rfl
      · obtain ⟨l, us, e, hl, d1⟩ := h2.of_lst
        exact ⟨l, us, e, .inl hl, d1⟩
      · obtain ⟨l, us, e, hl, d1⟩ := h2.of_tup
        exact ⟨l, us, e, .inr hl, d1⟩
    obtain ⟨p, us, e, hl, d1⟩ := z
    refine ⟨p, us, e, hl, h1.flat f, d1.flat fs, q _ H (Same.refl H) ?_⟩
    rw [if_neg (by simp), d1.inV h1 f fs, hk]
    exact .bl k
theorem od_notIn {xs : List PyData} {k : Bool} (hs : db = .list xs ∨ db = .tuple xs) (f : flatD da = true) (fs : xs.all flatD = true) (hk : (!xs.any fun e => PyData.eqv e da) = k) : OD X (compareOp .NotIn) da db (.bool k) :=
  op_notIn_seq.imp fun x y H Q ⟨h1, h2, q⟩ => by
    have z : ∃ p us, y = .ref p ∧ (SqL X.K H p us ∨ SqT X.K H p us) ∧ DVs X.K H us xs := by
      rcases hs with rfl | rfl
      · obtain ⟨l, us, e, hl, d1⟩ := h2.of_lst
        exact ⟨l, us, e, .inl hl, d1⟩
      · obtain ⟨l, us, e, hl, d1⟩ := h2.of_tup
        exact ⟨l, us, e, .inr hl, d1⟩
    obtain ⟨p, us, e, hl, d1⟩ := z
    refine ⟨p, us, e, hl, h1.flat f, d1.flat fs, q _ H (Same.refl H) ?_⟩
    rw [if_pos rfl, d1.inV h1 f fs, hk]
    exact .bl k
def nonD : PyData → Bool
  | .none => true
  | _ => false
theorem DV.isNon {K : PySem.W.Frag} {H : Hp} {v : V} {d : PyData} (h : DV K H v d) : decide (v = .non) = nonD d := by
  cases h <;> rfl
theorem ev_isN {j pos'} {k : Bool} (ha : EV X G a da) (hk : nonD da = k) : EV X G (.Compare a [.Is] [.Constant .none j pos'] pos) (.bool k) :=
  (pe_cmp (pc_isN ha)).imp fun σ H Q ⟨h, q⟩ => ⟨h, fun v H' s' dv => q _ H' s' (by rw [dv.isNon, hk]; exact .bl k)⟩
theorem av_nil : AV X G [] [] := pa_nil.imp fun σ H Q ⟨h, q⟩ => q [] H (Same.refl H) .nil
theorem av_cons {ds : List PyData} (h : EV X G e d) (hr : AV X G es ds) (hs : starEach (e :: es) X.env = (false, eval e X.env) :: starEach es X.env := by rfl) : AV X G (e :: es) (d :: ds) :=
  (pa_cons h hr hs).imp fun σ H Q ⟨h, q⟩ => ⟨h, fun v H1 s1 d1 => ⟨h.mono s1, fun vs H2 s2 d2 => q _ H2 (s1.trans s2) (.cons (d1.mono s2) d2)⟩⟩
theorem ev_tup {x1} {ds : List PyData} (h : AV X G es ds) (hz : ds.length ≤ sizeLine) : EV X G (.Tuple es x1 pos) (.tuple ds) :=
  (pe_tup h).imp fun σ H Q ⟨h, q⟩ => ⟨h, fun vs H1 s1 d1 => ⟨by rw [d1.length]; exact hz, fun p hp => q _ _ (s1.trans (Same.new hp)) (.tup (SqT.of upd_same) (d1.mono (Same.new hp)))⟩⟩
theorem ev_lst {ds : List PyData} (h : AV X G es ds) (hz : ds.length ≤ sizeLine) : EV X G (.List es pos) (.list ds) :=
  (pe_lst h).imp fun σ H Q ⟨h, q⟩ => ⟨h, fun vs H1 s1 d1 => ⟨by rw [d1.length]; exact hz, fun p hp => q _ _ (s1.trans (Same.new hp)) (.lst (SqL.of upd_same) (d1.mono (Same.new hp)))⟩⟩
theorem DVs.atI {K : PySem.W.Frag} {H : Hp} {vs : List V} {ds : List PyData} {i : Int} {d : PyData} (h : DVs K H vs ds) (e : atI ds i = some d) : ∃ v, L2.atI vs i = some v ∧ DV K H v d := by
  unfold L2.atI at e ⊢
  rw [h.length]
  cases q : ixN ds.length i with
  | none => rw [q] at e; cases e
  | some j =>
    rw [q] at e
    exact h.get e
theorem ev_ixL {ds : List PyData} {i : Int} (ha : EV X G a (.list ds)) (hb : EV X G b (.int i)) (he : atI ds i = some d) (hs : PlainIx b := by intro _ _; rfl) : EV X G (.Subscript a b pos) d :=
  (pe_ix ix_list ha hb hs).imp fun σ H Q ⟨h, q⟩ => tOp_D h fun x y H' s' d1 d2 => by
    obtain ⟨l, us, rfl, hl, d3⟩ := d1.of_lst
    obtain ⟨v, e1, e2⟩ := d3.atI he
    exact ⟨l, us, i, v, rfl, d2.of_int, hl, e1, q v H' s' e2⟩
theorem ev_ixT {ds : List PyData} {i : Int} (ha : EV X G a (.tuple ds)) (hb : EV X G b (.int i)) (he : atI ds i = some d) (hs : PlainIx b := by intro _ _; rfl) : EV X G (.Subscript a b pos) d :=
  (pe_ix ix_tup ha hb hs).imp fun σ H Q ⟨h, q⟩ => tOp_D h fun x y H' s' d1 d2 => by
    obtain ⟨l, us, rfl, hl, d3⟩ := d1.of_tup
    obtain ⟨v, e1, e2⟩ := d3.atI he
    exact ⟨l, us, i, v, rfl, d2.of_int, hl, e1, q v H' s' e2⟩
def tDO (K : PySem.W.Frag) (G : Gam) (o : Option Int) : TO := fun σ H Q => SD K H σ G ∧ ∀ H', Same H H' → Q o H'
abbrev OV (X : Cx) (G : Gam) (e : Option Expr) (o : Option Int) : Prop := PO X e (tDO X.K G o)
theorem ov_none : OV X G none none := fun pins s σ H Q I ⟨h, q⟩ => po_none pins s σ H Q I (q H (Same.refl H))
theorem ov_some {i : Int} (h : EV X G e (.int i)) : OV X G (some e) (some i) := fun pins s σ H Q I ⟨h1, q⟩ => po_some h pins s σ H Q I ⟨h1, fun v H' s' dv => ⟨i, dv.of_int, q H' s'⟩⟩
def cutD (xs : List PyData) (lo hi : Option Int) : List PyData := (xs.drop (HT.sIx xs.length 0 lo)).take (HT.sIx xs.length xs.length hi - HT.sIx xs.length 0 lo)
theorem DVs.cut {K : PySem.W.Frag} {H : Hp} {vs : List V} {ds : List PyData} (h : DVs K H vs ds) (lo hi : Option Int) : DVs K H (cutV vs lo hi) (cutD ds lo hi) := by
  unfold cutV cutD
  rw [h.length]
  exact (h.drop _).take _
end
end L2
set_option maxRecDepth 100000
set_option maxHeartbeats 4000000
namespace L2
open PySem PySem.Spec PyProof.Rows
section
variable {κ : Type} [DecidableEq κ]
def valV (kvs : List (κ × V)) (k : κ) : Option V := (kvs.find? fun kv => decide (kv.1 = k)).map (·.2)
def putK (kvs : List (κ × V)) (k : κ) (v : V) : List (κ × V) :=
  if (kvs.any fun kv => decide (kv.1 = k)) = true then kvs.map (fun kv => if kv.1 = k then (kv.1, v) else kv) else kvs ++ [(k, v)]
def dropK (kvs : List (κ × V)) (k : κ) : List (κ × V) := kvs.filter fun kv => decide (kv.1 ≠ k)
theorem valV_pos {p : κ × V} {r : List (κ × V)} {k : κ} (e : p.1 = k) : valV (p :: r) k = some p.2 := by simp [valV, List.find?_cons, e]
theorem valV_neg {p : κ × V} {r : List (κ × V)} {k : κ} (e : ¬ p.1 = k) : valV (p :: r) k = valV r k := by simp [valV, List.find?_cons, e]
theorem valV_any (k : κ) : ∀ kvs : List (κ × V), (kvs.any fun kv => decide (kv.1 = k)) = (valV kvs k).isSome
  | [] => rfl
  | p :: r => by
    rw [List.any_cons]
    by_cases e : p.1 = k
    · simp only [valV_pos e, decide_eq_true e, Bool.true_or, Option.isSome_some]
    · rw [valV_neg e, decide_eq_false e, Bool.false_or]; exact valV_any k r
theorem length_putK (kvs : List (κ × V)) (k : κ) (v : V) : (putK kvs k v).length ≤ kvs.length + 1 := by
  unfold putK
  split
  · rw [List.length_map]; omega
  · rw [List.length_append, List.length_cons, List.length_nil]; omega
theorem RelO.isSome_eq {o : Option V} {u : Option Value} (r : RelO o u) : o.isSome = u.isSome := by
  cases o with
  | none => cases u with
    | none => rfl
    | some _ => exact (show False from r).elim
  | some _ => cases u with
    | none => exact (show False from r).elim
    | some _ => rfl
theorem RelO.getD {o : Option V} {u : Option Value} {d : V} {d' : Value} (r : RelO o u) (rd : RelV d d') : RelV (o.getD d) (u.getD d') := by
  cases o with
  | none => cases u with
    | none => exact rd
    | some _ => exact (show False from r).elim
  | some _ => cases u with
    | none => exact (show False from r).elim
    | some _ => exact r
theorem KV.val {kvs : List (κ × V)} {vs : List (κ × Value)} (r : KV kvs vs) (k : κ) : RelO (valV kvs k) (valueAt vs k) := by
  unfold KV at r
  induction r with
  | nil => exact True.intro
  | @cons p q ps qs h t ih =>
    obtain ⟨h1, h2⟩ := h
    by_cases e : p.1 = k
    · have e' : q.1 = k := h1.symm.trans e
      have b : valueAt (q :: qs) k = some q.2 := by simp [valueAt, List.find?_cons, e']
      rw [valV_pos e, b]; exact h2
    · have e' : ¬ q.1 = k := fun z => e (h1.trans z)
      have b : valueAt (q :: qs) k = valueAt qs k := by simp [valueAt, List.find?_cons, e']
      rw [valV_neg e, b]; exact ih
theorem KV.any {kvs : List (κ × V)} {vs : List (κ × Value)} (r : KV kvs vs) (k : κ) : (kvs.any fun kv => decide (kv.1 = k)) = vs.any fun kv => decide (kv.1 = k) := by
  unfold KV at r
  induction r with
  | nil => rfl
  | cons h t ih => rw [List.any_cons, List.any_cons, ih, h.1]
theorem KV.repl {kvs : List (κ × V)} {vs : List (κ × Value)} (r : KV kvs vs) (k : κ) {y : V} {u : Value} (ry : RelV y u) :
    KV (kvs.map fun kv => if kv.1 = k then (kv.1, y) else kv) (vs.map fun kv => if kv.1 = k then (kv.1, u) else kv) := by
  unfold KV at r ⊢
  induction r with
  | nil => exact .nil
  | @cons p q ps qs h t ih =>
    rw [List.map_cons, List.map_cons]
    refine .cons ?_ ih
    obtain ⟨h1, h2⟩ := h
    by_cases e : p.1 = k
    · rw [if_pos e, if_pos (h1.symm.trans e)]; exact ⟨h1, ry⟩
    · rw [if_neg e, if_neg (fun z => e (h1.trans z))]; exact ⟨h1, h2⟩
theorem KV.put {kvs : List (κ × V)} {vs : List (κ × Value)} (r : KV kvs vs) (k : κ) {y : V} {u : Value} (ry : RelV y u) : KV (putK kvs k y) (stored vs k u) := by
  unfold putK stored
  rw [r.any k]
  by_cases e : (vs.any fun kv => decide (kv.1 = k)) = true
  · rw [if_pos e, if_pos e]; exact r.repl k ry
  · rw [if_neg e, if_neg e]; exact Paired.snoc r ⟨rfl, ry⟩
theorem KV.drop {kvs : List (κ × V)} {vs : List (κ × Value)} (r : KV kvs vs) (k : κ) : KV (dropK kvs k) (without vs k) := by
  unfold KV at r ⊢
  unfold dropK without
  induction r with
  | nil => exact .nil
  | @cons p q ps qs h t ih =>
    obtain ⟨h1, h2⟩ := h
    rw [List.filter_cons, List.filter_cons]
    by_cases e : p.1 = k
    · have a : ¬ decide (p.1 ≠ k) = true := by simp [e]
      have b : ¬ decide (q.1 ≠ k) = true := by simp [h1.symm.trans e]
      rw [if_neg a, if_neg b]; exact ih
    · have e' : ¬ q.1 = k := fun z => e (h1.trans z)
      have a : decide (p.1 ≠ k) = true := by simp [e]
      have b : decide (q.1 ≠ k) = true := by simp [e']
      rw [if_pos a, if_pos b]; exact .cons ⟨h1, h2⟩ ih
theorem KV.keys {kvs : List (κ × V)} {vs : List (κ × Value)} (r : KV kvs vs) : kvs.map (·.1) = vs.map (·.1) := by
  unfold KV at r
  induction r with
  | nil => rfl
  | cons h t ih => rw [List.map_cons, List.map_cons, ih, h.1]
theorem KV.length {kvs : List (κ × V)} {vs : List (κ × Value)} (r : KV kvs vs) : kvs.length = vs.length := Paired.length r
end
theorem kV_is {P : Program} {w : World} {k : Key} {u : Value} (r : RelV (kV k) u) : (mixKind P w).is k u = true := by
  cases k with
  | inl i => obtain ⟨t, e⟩ := (show ∃ t, u = Value.int i t from r); subst e; exact mixKind_int P w i t
  | inr x => obtain ⟨t, e⟩ := (show ∃ t, u = Value.str x t from r); subst e; exact mixKind_str P w x t
theorem items_are {P : Program} {w : World} : ∀ {ks : List Key} {us : List Value}, Vals (ks.map kV) us → ItemsAre (mixKind P w) ks us
  | [], _, r => by rw [List.map_nil] at r; cases r; exact .nil
  | k :: ks, _, r => by
    rw [List.map_cons] at r
    cases r with
    | cons h t => exact .cons (kV_is h) (items_are t)
abbrev KT (H : Hp) : List (List Key × V) → List (List Key × Addr × Value) → Prop := Paired fun p q => p.1 = q.1 ∧ H q.2.1 = some (.tup (p.1.map kV)) ∧ RelV p.2 q.2.2
theorem KT.val {H : Hp} {kvs : List (List Key × V)} {xs : List (List Key × Addr × Value)} (r : KT H kvs xs) (k : List Key) : RelO (valV kvs k) ((atKey xs k).map (·.2)) := by
  induction r with
  | nil => exact True.intro
  | @cons p q ps qs h t ih =>
    obtain ⟨h1, _, h2⟩ := h
    by_cases e : p.1 = k
    · have e' : q.1 = k := h1.symm.trans e
      have b : atKey (q :: qs) k = some q.2 := by simp [atKey, List.find?_cons, e']
      rw [valV_pos e, b]; exact h2
    · have e' : ¬ q.1 = k := fun z => e (h1.trans z)
      have b : atKey (q :: qs) k = atKey qs k := by simp [atKey, List.find?_cons, e']
      rw [valV_neg e, b]; exact ih
theorem KT.repl {H : Hp} {kvs : List (List Key × V)} {xs : List (List Key × Addr × Value)} (r : KT H kvs xs) (k : List Key) {y : V} {u : Value} (ry : RelV y u) :
    KT H (kvs.map fun kv => if kv.1 = k then (kv.1, y) else kv) (xs.map (putAt k u)) := by
  induction r with
  | nil => exact .nil
  | @cons p q ps qs h t ih =>
    rw [List.map_cons, List.map_cons]
    refine .cons ?_ ih
    obtain ⟨h1, h2, h3⟩ := h
    unfold putAt
    by_cases e : p.1 = k
    · rw [if_pos e, if_pos (h1.symm.trans e)]; exact ⟨h1, h2, ry⟩
    · rw [if_neg e, if_neg (fun z => e (h1.trans z))]; exact ⟨h1, h2, h3⟩
theorem KT.put {H : Hp} {kvs : List (List Key × V)} {xs : List (List Key × Addr × Value)} (r : KT H kvs xs) (k : List Key) {b : Addr} {y : V} {u : Value} (hb : H b = some (.tup (k.map kV))) (ry : RelV y u) :
    KT H (putK kvs k y) (storedH xs k b u) := by
  have e : (kvs.any fun kv => decide (kv.1 = k)) = (atKey xs k).isSome := by
    rw [valV_any, (r.val k).isSome_eq, Option.isSome_map]
  unfold putK storedH
  rw [e]
  by_cases q : (atKey xs k).isSome = true
  · rw [if_pos q, if_pos q]; exact r.repl k ry
  · rw [if_neg q, if_neg q]; exact Paired.snoc r ⟨rfl, hb, ry⟩
theorem KT.keeps {H H' : Hp} {kvs : List (List Key × V)} {xs : List (List Key × Addr × Value)} (r : KT H kvs xs) (ht : ∀ b ys, H b = some (.tup ys) → H' b = some (.tup ys)) : KT H' kvs xs :=
  Paired.mapP r fun _ _ z => ⟨z.1, ht _ _ z.2.1, z.2.2⟩
section
variable {P : Program} {w : World} {H : Hp} {h : Heap} {a : Addr}
theorem rd_of {u : HO} (ok : HOk P w H h) (e : Rd H a u) : ObjOk P w H h a u := e.ok ok
theorem dk_rd {kvs : List (Key × V)} (ok : HOk P w H h) (e : Rd H a (.dK kvs)) : kvs.length ≤ sizeLine ∧ (a == sysModules) = false ∧ ∃ vs, KV kvs vs ∧ h.DictOf (mixKind P w) a vs :=
  show ObjOk P w H h a (.dK kvs) from rd_of ok e
theorem dk_of {kvs : List (Key × V)} (ok : HOk P w H h) (e : H a = some (.dK kvs)) : kvs.length ≤ sizeLine ∧ (a == sysModules) = false ∧ ∃ vs, KV kvs vs ∧ h.DictOf (mixKind P w) a vs := dk_rd ok (.inl e)
theorem key_of {ks : List Key} (ok : HOk P w H h) (e : H a = some (.tup (ks.map kV))) : (tupleKind (mixKind P w)).is h ks a := by
  obtain ⟨_, ⟨its, r, o, h1, h2, n, h3⟩, _⟩ := (show ObjOk P w H h a (.tup (ks.map kV)) from ok a _ e)
  exact ⟨o, its.toArray, n, h1, h2, h3, by simpa using items_are r⟩
theorem dt_rd {kvs : List (List Key × V)} (ok : HOk P w H h) (e : Rd H a (.dT kvs)) : kvs.length ≤ sizeLine ∧ (a == sysModules) = false ∧
    ∃ xs, KT H kvs xs ∧ h.DictOfH (tupleKind (mixKind P w)) a xs := by
  obtain ⟨z, y, xs, r, o, es, ep, h1, h2, h3, h4, h5⟩ := (show ObjOk P w H h a (.dT kvs) from rd_of ok e)
  refine ⟨z, y, xs, r, o, es, ep, h1, h2, h3, h4, fun x hx => ?_, h5⟩
  have all : ∀ {l : List (List Key × V)} {m : List (List Key × Addr × Value)}, KT H l m → ∀ x ∈ m, (tupleKind (mixKind P w)).is h x.1 x.2.1 := by
    intro l m q
    induction q with
    | nil => intro x hx; exact nomatch hx
    | @cons p q ps qs hq t ih =>
      intro x hx
      rcases List.mem_cons.mp hx with e | hx
      · subst e
        exact key_of ok (by rw [← hq.1]; exact hq.2.1)
      · exact ih x hx
  exact all r x hx
theorem dt_of {kvs : List (List Key × V)} (ok : HOk P w H h) (e : H a = some (.dT kvs)) : kvs.length ≤ sizeLine ∧ (a == sysModules) = false ∧
    ∃ xs, KT H kvs xs ∧ h.DictOfH (tupleKind (mixKind P w)) a xs := dt_rd ok (.inl e)
end
def DGet (H : Hp) (a : Addr) (y : V) (r : Option V) : Prop :=
  (∃ kvs k, Rd H a (.dK kvs) ∧ y = kV k ∧ r = valV kvs k) ∨ ∃ kvs k b, Rd H a (.dT kvs) ∧ y = .ref b ∧ H b = some (.tup (k.map kV)) ∧ r = valV kvs k
def DPut (H : Hp) (a : Addr) (y v : V) (H' : Hp) : Prop :=
  (∃ kvs k, H a = some (.dK kvs) ∧ y = kV k ∧ kvs.length < sizeLine ∧ H' = upd H a (.dK (putK kvs k v))) ∨
  ∃ kvs k b, H a = some (.dT kvs) ∧ y = .ref b ∧ H b = some (.tup (k.map kV)) ∧ kvs.length < sizeLine ∧ H' = upd H a (.dT (putK kvs k v))
theorem DGet.k {H : Hp} {a : Addr} {kvs : List (Key × V)} {k : Key} (e : H a = some (.dK kvs)) : DGet H a (kV k) (valV kvs k) := .inl ⟨kvs, k, .inl e, rfl, rfl⟩
theorem DGet.t {H : Hp} {a b : Addr} {kvs : List (List Key × V)} {k : List Key} (e : H a = some (.dT kvs)) (eb : H b = some (.tup (k.map kV))) : DGet H a (.ref b) (valV kvs k) := .inr ⟨kvs, k, b, .inl e, rfl, eb, rfl⟩
theorem DPut.k {H : Hp} {a : Addr} {kvs : List (Key × V)} {k : Key} {v : V} (e : H a = some (.dK kvs)) (hl : kvs.length < sizeLine) : DPut H a (kV k) v (upd H a (.dK (putK kvs k v))) := .inl ⟨kvs, k, e, rfl, hl, rfl⟩
theorem DPut.t {H : Hp} {a b : Addr} {kvs : List (List Key × V)} {k : List Key} {v : V} (e : H a = some (.dT kvs)) (eb : H b = some (.tup (k.map kV))) (hl : kvs.length < sizeLine) :
    DPut H a (.ref b) v (upd H a (.dT (putK kvs k v))) := .inr ⟨kvs, k, b, e, rfl, eb, hl, rfl⟩
section
variable {X : Cx} {pins : List (Addr × Obj)} {σ : St} {H : Hp} {s : Shared} {a : Addr} {y v : V} {u r : Value} {o : Option V} {A : Around} {E : Value → Shared → Prop}
theorem Inv.big (I : Inv X pins σ H s) : sysModules < s.heap.objs.size := by
  have h : mainGlobals < s.heap.objs.size := (I.mod.glob.keeps I.bk).lt
  exact Nat.lt_trans (by decide) h
theorem d_getItem {Q : Value → Shared → Prop} (hu : A.units + 1 < cLine) (I : Inv X pins σ H s) (g : DGet H a y (some v)) (ry : RelV y u) (h : ∀ w' s', Inv X pins σ H s' → RelV v w' → Q w' s') :
    wpAny (model X.prog X.w) A (getItem (.ref a) u) Q E s := by
  rcases g with ⟨kvs, k, e, ey, l⟩ | ⟨kvs, k, b, e, ey, eb, l⟩
  · subst ey
    obtain ⟨z, hd, vs, rel, dd⟩ := dk_rd I.hok e
    obtain ⟨w', hw, rw'⟩ := RelO.some_of (v := v) (o := valueAt vs k) (by rw [l]; exact rel.val k)
    exact wpAny_getItem_of (kV_is ry) dd.mapOf hw (h w' _ (I.tok _) rw')
  · subst ey
    cases (show u = Value.ref b from ry)
    obtain ⟨z, hd, xs, rel, dd⟩ := dt_rd I.hok e
    obtain ⟨w', hw, rw'⟩ := RelO.some_of (v := v) (o := (atKey xs k).map (·.2)) (by rw [l]; exact rel.val k)
    obtain ⟨p, hp, hp2⟩ := Option.map_eq_some_iff.mp hw
    refine wpAny_getItem_heap (tupleKind_room_in1 hu) (key_of I.hok eb) dd hp ?_
    rw [hp2]
    exact h w' _ (I.tok _) rw'
theorem d_write {h' : Heap} {t' : Nat} {ob : HO} (I : Inv X pins σ H s) (mu : Mut (H a)) (hs : Heap.SameBut a s.heap h') (he : ∃ q, h'.get? a = some q) (new : ObjOk X.prog X.w (upd H a ob) h' a ob) :
    Inv X pins σ (upd H a ob) { s with heap := h', toks := t' } :=
  I.write (x := a) (e := a) mu (.inl rfl) (fun b q hb z => (hs.2 b hb).trans z) he new
theorem dk_new {P : Program} {w : World} {H' : Hp} {h' : Heap} {kvs : List (Key × V)} {vs : List (Key × Value)} (z : kvs.length ≤ sizeLine) (hd : (a == sysModules) = false) (rel : KV kvs vs) (dd : h'.DictOf (mixKind P w) a vs) :
    ObjOk P w H' h' a (.dK kvs) := ⟨z, hd, vs, rel, dd⟩
theorem d_setItem {H' : Hp} {Q : Unit → Shared → Prop} (hu : A.units + 1 < cLine) (I : Inv X pins σ H s) (g : DPut H a y v H') (ry : RelV y u) (rv : RelV v r) (h : ∀ s', Inv X pins σ H' s' → Q () s') :
    wpAny (model X.prog X.w) A (setItem (.ref a) u r) Q E s := by
  rcases g with ⟨kvs, k, e, ey, l, eH⟩ | ⟨kvs, k, b, e, ey, eb, l, eH⟩
  · subst ey eH
    obtain ⟨z, hd, vs, rel, dd⟩ := dk_of I.hok e
    have hz : vs.length ≤ sizeLine := by rw [← rel.length]; exact z
    have hl : (putK kvs k v).length ≤ sizeLine := by have := length_putK kvs k v; omega
    refine wpAny_setItem_pairs (hsz := hz) (kV_is ry) dd fun h' dd' hs => h _ ?_
    have he : ∃ q, h'.get? a = some q := let ⟨q, _, _, hq, _⟩ := dd'; ⟨q, hq⟩
    exact d_write I (by rw [e]; exact True.intro) hs he (dk_new hl hd (rel.put k rv) dd')
  · subst ey eH
    cases (show u = Value.ref b from ry)
    obtain ⟨z, hd, xs, rel, dd⟩ := dt_of I.hok e
    have hz : xs.length ≤ sizeLine := by rw [← Paired.length rel]; exact z
    have hl : (putK kvs k v).length ≤ sizeLine := by have := length_putK kvs k v; omega
    refine wpAny_setItem_heap (hsz := hz) (tupleKind_room_in1 hu) (key_of I.hok eb) dd fun h' dd' hs => h _ ?_
    obtain ⟨q, es, ep, hq, h2, h3, h4, _, h5⟩ := dd'
    refine d_write I (by rw [e]; exact True.intro) hs ⟨q, hq⟩ ⟨hl, hd, _, (rel.put k eb rv).keeps fun c ys ec => ?_, q, es, ep, hq, h2, h3, h4, h5⟩
    rw [upd_ne (ne_of ec e (fun z => nomatch z))]
    exact ec
end
section
variable {X : Cx} {pins : List (Addr × Obj)} {σ : St} {H : Hp} {s : Shared} {a : Addr} {kvs : List (Key × V)} {k : Key} {u : Value} {A : Around} {E : Value → Shared → Prop}
end
def NoSl (i : Expr) : Prop := ∀ ov iv, subscripted i false ov iv = operate [ov, iv] (getItem ov iv)
theorem subD_of {prog : Program} {w : World} {A : Around} {E : Value → Shared → Prop} {s : Shared} {env : Env} {value slice : Expr} {pos : Pos} {T id : String} {Q : Value → Shared → Prop}
    (hl : typeLookup (.type T) "__getitem__" = pure (some (.builtin id))) (hs : NoSl slice)
    (h : wpAny (model prog w) A (eval value env) (fun o s₁ => wpAny (model prog w) A (eval slice env) (fun i s₂ => s₂.TypeIs o T ∧ wpAny (model prog w) A (getItem o i) Q E s₂) E s₁) E s) :
    wpAny (model prog w) A (eval (.Subscript value slice pos) env) Q E s := by
  refine Subscript_ (wpAny_mono h (fun o s₁ h₁ => wpAny_mono h₁ (fun i s₂ h₂ => ?_) fun _ _ x => x) fun _ _ x => x)
  obtain ⟨hT, h₂⟩ := h₂
  unfold subscriptTail
  refine wpAny_bind ?_
  rw [getitemInPython_of_ne hT.not_modules]
  refine wpAny_bind (wpAny_specialOf hT hl ?_)
  have fin : wpAny (model prog w) A (subscripted slice false o i) (fun r s₃ => wpAny (model prog w) A (letTemporaryGo value o r >>= fun _ => pure r) Q E s₃) E s₂ := by
    rw [hs o i]
    exact wpAny_operating (wpAny_mono h₂ (fun r s₃ h₃ => wpAny_bind (wpAny_letTemporaryGo (wpAny_pure h₃))) fun _ _ x => x)
  first
    | exact wpAny_pure (wpAny_bind fin)
    | exact wpAny_bind (wpAny_pure (wpAny_bind fin))
    | exact wpAny_bind fin
theorem dict_typeIs {X : Cx} {pins : List (Addr × Obj)} {σ : St} {H : Hp} {s : Shared} {a : Addr} {y : V} {o : Option V} (I : Inv X pins σ H s) (g : DGet H a y o) : s.TypeIs (.ref a) "dict" := by
  rcases g with ⟨kvs, k, e, _, _⟩ | ⟨kvs, k, b, e, _, _, _⟩
  · obtain ⟨_, _, vs, _, dd⟩ := dk_rd I.hok e
    exact dd.typeIs
  · obtain ⟨_, _, xs, _, dd⟩ := dt_rd I.hok e
    exact dd.typeIs
def tDGet (td ty : TE) : TE := fun σ H Q => td σ H fun x H1 => ty σ H1 fun y H2 => ∃ a v, x = .ref a ∧ DGet H2 a y (some v) ∧ Q v H2
def sDPut (td ty tv : TE) : TS := fun D σ H => tv σ H fun v H1 => td σ H1 fun x H2 => ty σ H2 fun y H3 => ∃ a H4, x = .ref a ∧ DPut H3 a y v H4 ∧ D.nx σ H4
section
variable {X : Cx} {o i e value : Expr} {pos pos' tpos : Pos} {td ty tv : TE}
theorem pe_dget (hu : X.A.units + 1 < cLine) (ho : PE X o td) (hi : PE X i ty) (hs : NoSl i) : PE X (.Subscript o i pos) (tDGet td ty) := by
  intro pins s σ H Q I h
  refine subD_of PySem.F.slot_dict_getitem.lookup hs (thn (ho pins s σ H _ I h) fun u s1 ⟨x, H1, I1, rx, q1⟩ => thn (hi pins s1 σ H1 _ I1 q1) fun iv s2 ⟨y, H2, I2, ry, a, v, ex, g, q2⟩ => ?_)
  subst ex
  obtain rfl : u = Value.ref a := rx
  exact ⟨dict_typeIs I2 g, d_getItem hu I2 g ry fun w' s3 I3 rw' => ⟨v, H2, I3, rw', q2⟩⟩
theorem ps_dput (hu : X.A.units + 1 < cLine) (ho : PE X o td) (hi : PE X i ty) (hv : PE X value tv) (hs : swapsWith value (some (.Subscript o i pos')) pos.line X.env = pure false) :
    PS X (.Assign [.Subscript o i pos'] value pos) (sDPut td ty tv) := by
  intro pins s σ H D I h
  refine wpAny_Assign_Subscript (thn (hv pins s σ H _ I h) fun r s1 ⟨v, H1, I1, rv, q1⟩ => thn (ho pins s1 σ H1 _ I1 q1) fun u s2 ⟨x, H2, I2, rx, q2⟩ => thn (hi pins s2 σ H2 _ I2 q2) fun iv s3 ⟨y, H3, I3, ry, a, H4, ex, g, q3⟩ => ?_) hs
  subst ex
  obtain rfl : u = Value.ref a := rx
  exact d_setItem hu I3 g ry rv fun s4 I4 => ⟨σ, H4, I4, q3⟩
end
theorem dk_empty {P : Program} {w : World} {H : Hp} (h : Heap) (hb : sysModules < h.objs.size) : ObjOk P w H (h.push { cls := .type "dict", data := .dict #[] }) h.objs.size (.dK []) :=
  ⟨Nat.zero_le _, beq_eq_false_iff_ne.mpr (Ne.symm (Nat.ne_of_lt hb)), [], .nil, Heap.DictOf.new h⟩
theorem dt_empty {P : Program} {w : World} {H : Hp} (h : Heap) (hb : sysModules < h.objs.size) : ObjOk P w H (h.push { cls := .type "dict", data := .dict #[] }) h.objs.size (.dT []) :=
  ⟨Nat.zero_le _, beq_eq_false_iff_ne.mpr (Ne.symm (Nat.ne_of_lt hb)), [], .nil, _, #[], 0, Heap.get?_push_size _ rfl, ⟨rfl, rfl, rfl⟩, rfl, rfl, List.nodup_nil⟩
def tDNewK : TE := fun _ H Q => ∀ p, H p = none → Q (.ref p) (upd H p (.dK []))
def tDNewT : TE := fun _ H Q => ∀ p, H p = none → Q (.ref p) (upd H p (.dT []))
section
variable {X : Cx} {pos : Pos}
theorem pe_dnewK : PE X (.Dict [] [] pos) tDNewK := fun pins s σ H Q I h =>
  wpAny_Dict_empty ⟨.ref s.heap.objs.size, _, I.laid (a := s.heap.objs.size) (o := .dK []) (t' := s.toks) (fun _ _ q => Heap.get?_push_of_some _ q) (Nat.le_refl _) (dk_empty s.heap I.big), rfl, h _ (I.hok.fresh (Nat.le_refl _))⟩
theorem pe_dnewT : PE X (.Dict [] [] pos) tDNewT := fun pins s σ H Q I h =>
  wpAny_Dict_empty ⟨.ref s.heap.objs.size, _, I.laid (a := s.heap.objs.size) (o := .dT []) (t' := s.toks) (fun _ _ q => Heap.get?_push_of_some _ q) (Nat.le_refl _) (dt_empty s.heap I.big), rfl, h _ (I.hok.fresh (Nat.le_refl _))⟩
end
structure M1 (X : Cx) (o : Expr) (m : Str) (apos : Pos) (e : Expr) (cpos : Pos) : Prop where
  base : attributeBase o m X.env (eval o X.env) = eval o X.env
  few : ((backTo cpos (starEach [e] X.env)).all (fun x => !x.1) && (backToKw cpos (keywordEach [] X.env)).all (fun x => x.1.isSome)
    && decide (([e] : List Expr).length + ([] : List Keyword).length + (if ([] : List Keyword).isEmpty then 0 else 1) < 30)) = true
  line : (apos.endLine == cpos.line) = true
  trees : backTo cpos (starEach [e] X.env) = [(false, eval e X.env)]
structure M2 (X : Cx) (o : Expr) (m : Str) (apos : Pos) (e f : Expr) (cpos : Pos) : Prop where
  base : attributeBase o m X.env (eval o X.env) = eval o X.env
  few : ((backTo cpos (starEach [e, f] X.env)).all (fun x => !x.1) && (backToKw cpos (keywordEach [] X.env)).all (fun x => x.1.isSome)
    && decide (([e, f] : List Expr).length + ([] : List Keyword).length + (if ([] : List Keyword).isEmpty then 0 else 1) < 30)) = true
  line : (apos.endLine == cpos.line) = true
  trees : backTo cpos (starEach [e, f] X.env) = [(false, eval e X.env), (false, eval f X.env)]
def IsD (H : Hp) (a : Addr) : Prop := (∃ kvs, Rd H a (.dK kvs)) ∨ ∃ kvs, Rd H a (.dT kvs)
theorem isD_at {X : Cx} {pins : List (Addr × Obj)} {σ : St} {H : Hp} {s : Shared} {a : Addr} (I : Inv X pins σ H s) (d : IsD H a) :
    s.TypeIs (.ref a) "dict" ∧ (∀ b, Value.ref a = .ref b → ∃ ob, s.heap.get? b = some ob ∧ ob.dict = none) ∧ (a == sysModules) = false := by
  rcases d with ⟨kvs, e⟩ | ⟨kvs, e⟩
  · obtain ⟨_, hd, vs, _, dd⟩ := dk_rd I.hok e
    refine ⟨dd.typeIs, fun b q => ?_, hd⟩
    cases q
    obtain ⟨ob, _, _, h1, h2, _⟩ := dd
    exact ⟨ob, h1, h2.2.1⟩
  · obtain ⟨_, hd, xs, _, dd⟩ := dt_rd I.hok e
    refine ⟨dd.typeIs, fun b q => ?_, hd⟩
    cases q
    obtain ⟨ob, _, _, h1, h2, _⟩ := dd
    exact ⟨ob, h1, h2.2.1⟩
section
variable {X : Cx} {pins : List (Addr × Obj)} {σ : St} {H : Hp} {s : Shared} {a : Addr} {y d : V} {u r : Value} {o : Option V} {A : Around} {E : Value → Shared → Prop}
theorem d_get2 {Q : Value → Shared → Prop} (hu : A.units + 1 < cLine) (I : Inv X pins σ H s) (g : DGet H a y o) (ry : RelV y u) (rd : RelV d r) (h : ∀ w' s', Inv X pins σ H s' → RelV (o.getD d) w' → Q w' s') :
    wpAny (model X.prog X.w) A (call (.builtin "dict.get") [.ref a, u, r]) Q E s := by
  rcases g with ⟨kvs, k, e, ey, l⟩ | ⟨kvs, k, b, e, ey, eb, l⟩
  · subst ey
    obtain ⟨z, hd, vs, rel, dd⟩ := dk_rd I.hok e
    refine call_meetsIn PySem.F.slot_dict_get dd.typeIs PySem.F.entry_dict_get (PySem.F.args_dict_get_3 _ _ _) (meets_dict_get_default (mixKind X.prog X.w) a (kV_is ry) hd r) ⟨_, dd.mapOf, h _ _ (I.tok _) ?_⟩
    rw [l]
    exact (rel.val k).getD rd
  · subst ey
    cases (show u = Value.ref b from ry)
    obtain ⟨z, hd, xs, rel, dd⟩ := dt_rd I.hok e
    refine call_meetsIn PySem.F.slot_dict_get dd.typeIs PySem.F.entry_dict_get (PySem.F.args_dict_get_3 _ _ _) (meetsH_dict_get_default (tupleKind (mixKind X.prog X.w)) a b hd r) ⟨tupleKind_room_in1 hu, k, xs, key_of I.hok eb, dd, h _ _ (I.tok _) ?_⟩
    rw [l]
    exact (rel.val k).getD rd
end
def tDGet2 (td ty tx : TE) : TE := fun σ H Q => td σ H fun x H1 => ∃ a, x = .ref a ∧ IsD H1 a ∧ ty σ H1 fun y H2 => tx σ H2 fun z H3 => ∃ o, DGet H3 a y o ∧ Q (o.getD z) H3
section
variable {X : Cx} {o e f : Expr} {apos cpos : Pos} {td ty tx : TE}
theorem pe_dget2 (hu : X.A.units + 1 < cLine) (ho : PE X o td) (he : PE X e ty) (hf : PE X f tx) (m : M2 X o "get" apos e f cpos) : PE X (.Call (.Attribute o "get" apos) [e, f] [] cpos) (tDGet2 td ty tx) := by
  intro pins s σ H Q I h
  refine wpAny_Call_method m.base m.few m.line PySem.F.plainAttrs_dict PySem.F.slot_dict_get PySem.F.type_dict_get (thn (ho pins s σ H _ I h) fun u s1 ⟨x, H1, I1, rx, a, ex, d, q1⟩ => ?_)
  subst ex
  obtain rfl : u = Value.ref a := rx
  obtain ⟨t1, t2, _⟩ := isD_at I1 d
  refine ⟨t1, t2, ?_⟩
  rw [m.trees]
  refine Calls.callWith_builtin rfl (Calls.evalArgs_plain (Calls.spliced_cons (thn (he pins s1 σ H1 _ I1 q1) fun iv s2 ⟨y, H2, I2, ry, q2⟩ =>
    Calls.spliced_cons (thn (hf pins s2 σ H2 _ I2 q2) fun fv s3 ⟨z, H3, I3, rz, ov, g, q3⟩ => Calls.spliced_nil ?_))))
  exact d_get2 hu I3 g ry rz fun w' s4 I4 rw' => ⟨_, H3, I4, rw', q3⟩
end
section
variable {X : Cx} {pins : List (Addr × Obj)} {σ : St} {H : Hp} {s : Shared} {a : Addr} {kvs : List (Key × V)} {A : Around} {E : Value → Shared → Prop}
end
section
variable {X : Cx} {pins : List (Addr × Obj)} {σ : St} {H : Hp} {s : Shared} {a : Addr} {y : V} {u : Value} {A : Around} {E : Value → Shared → Prop}
end
end L2
set_option maxRecDepth 100000
set_option maxHeartbeats 4000000
namespace L2
open PySem PySem.Spec PyProof.Rows
def rDA (K : PySem.W.Frag) (ds : List PyData) (d : PyData) : List V → Hp → VK → Prop := fun xs H Q => DVs K H xs ds ∧ ∀ v H', Same H H' → DV K H' v d → Q v H'
abbrev CD (X : Cx) (f : Value) (ds : List PyData) (d : PyData) : Prop := CallR X f (rDA X.K ds d)
section
variable {X : Cx} {G : Gam} {a b c e : Expr} {es rest : List Expr} {pos p p2 : Pos} {d da db dc : PyData} {ds : List PyData} {x : Str} {id T : String}
theorem DVs.one {K : PySem.W.Frag} {H : Hp} {vs : List V} (h : DVs K H vs [d]) : ∃ v, vs = [v] ∧ DV K H v d := by
  cases h with
  | cons h t => cases t; exact ⟨_, rfl, h⟩
theorem DVs.two {K : PySem.W.Frag} {H : Hp} {vs : List V} (h : DVs K H vs [da, db]) : ∃ v w, vs = [v, w] ∧ DV K H v da ∧ DV K H w db := by
  cases h with
  | cons h t =>
    obtain ⟨w, rfl, h2⟩ := t.one
    exact ⟨_, w, rfl, h, h2⟩
theorem cd_lenL : CD X (.builtin "len") [.list ds] (.int ds.length) := call_len_seq.imp fun xs H Q ⟨h, q⟩ => by
  obtain ⟨v, rfl, dv⟩ := h.one
  obtain ⟨l, us, rfl, hl, d1⟩ := dv.of_lst
  exact ⟨l, us, rfl, .inl hl, q _ H (Same.refl H) (by rw [d1.length]; exact .int _)⟩
theorem cd_lenT : CD X (.builtin "len") [.tuple ds] (.int ds.length) := call_len_seq.imp fun xs H Q ⟨h, q⟩ => by
  obtain ⟨v, rfl, dv⟩ := h.one
  obtain ⟨l, us, rfl, hl, d1⟩ := dv.of_tup
  exact ⟨l, us, rfl, .inr hl, q _ H (Same.refl H) (by rw [d1.length]; exact .int _)⟩
theorem cd_lenS {z : Str} (hz : z.length ≤ sizeLine) : CD X (.builtin "len") [.str z] (.int z.length) := call_len_str.imp fun xs H Q ⟨h, q⟩ => by
  obtain ⟨v, rfl, dv⟩ := h.one
  exact ⟨z, by rw [dv.of_str], hz, q _ H (Same.refl H) (.int _)⟩
theorem cd_tupleL : CD X (.type "tuple") [.list ds] (.tuple ds) := call_tuple_of.imp fun xs H Q ⟨h, q⟩ => by
  obtain ⟨v, rfl, dv⟩ := h.one
  obtain ⟨l, us, rfl, hl, d1⟩ := dv.of_lst
  exact ⟨l, us, rfl, .inl ⟨hl, fun p hp => q _ _ (Same.new hp) (.tup (SqT.of upd_same) (d1.mono (Same.new hp)))⟩⟩
theorem cd_listL : CD X (.type "list") [.list ds] (.list ds) := call_list_of.imp fun xs H Q ⟨h, q⟩ => by
  obtain ⟨v, rfl, dv⟩ := h.one
  obtain ⟨l, us, rfl, hl, d1⟩ := dv.of_lst
  exact ⟨l, us, rfl, .inl hl, fun p hp => q _ _ (Same.new hp) (.lst (SqL.of upd_same) (d1.mono (Same.new hp)))⟩
theorem cd_listT : CD X (.type "list") [.tuple ds] (.list ds) := call_list_of.imp fun xs H Q ⟨h, q⟩ => by
  obtain ⟨v, rfl, dv⟩ := h.one
  obtain ⟨l, us, rfl, hl, d1⟩ := dv.of_tup
  exact ⟨l, us, rfl, .inr hl, fun p hp => q _ _ (Same.new hp) (.lst (SqL.of upd_same) (d1.mono (Same.new hp)))⟩
theorem cd_intB {k : Bool} : CD X (.type "int") [.bool k] (.int (if k then 1 else 0)) := call_int1.imp fun xs H Q ⟨h, q⟩ => by
  obtain ⟨v, rfl, dv⟩ := h.one
  exact .inr ⟨k, by rw [dv.of_bl], q _ H (Same.refl H) (.int _)⟩
theorem cd_max {i j : Int} (hc : X.calm = true) : CD X (.builtin "max") [.int i, .int j] (.int (if j > i then j else i)) := (call_max2 hc).imp fun xs H Q ⟨h, q⟩ => by
  obtain ⟨v, w, rfl, dv, dw⟩ := h.two
  exact ⟨i, j, by rw [dv.of_int, dw.of_int], q _ H (Same.refl H) (.int _)⟩
theorem all_range_eq (bs : List Bool) : (List.range bs.length).all (fun i => bs.getD i false) = bs.all (fun z => z) := by
  rw [Bool.eq_iff_iff, List.all_eq_true, List.all_eq_true]
  constructor
  · intro h x hx
    obtain ⟨i, hi, e⟩ := List.mem_iff_getElem.mp hx
    have := h i (List.mem_range.mpr hi)
    simp only [List.getD_eq_getElem?_getD, List.getElem?_eq_getElem hi, Option.getD_some] at this
    rw [← e]
    exact this
  · intro h i hi
    have hi := List.mem_range.mp hi
    simp only [List.getD_eq_getElem?_getD, List.getElem?_eq_getElem hi, Option.getD_some]
    exact h _ (List.getElem_mem hi)
theorem cd_all (hc : X.calm = true) {bs : List Bool} : CD X (.builtin "all") [.list (bs.map PyData.bool)] (.bool (bs.all fun z => z)) := by
  intro pins s σ H xs us Q I rs ⟨h, q⟩
  obtain ⟨v, rfl, dv⟩ := h.one
  obtain ⟨l, vs, rfl, hl, d1⟩ := dv.of_lst
  obtain ⟨u, rfl, ru⟩ := vals1 rs
  cases ru
  have e1 := d1.of_bools
  subst e1
  obtain ⟨its, r, pl, hz⟩ := I.list hl
  have hlt : l < s.heap.objs.size := by
    obtain ⟨o, ho, _⟩ := pl.isList
    exact Heap.lt_size ho
  have hh : X.A.in1.handled = none := I.ok.hd hc
  have hlen : its.toArray.size = bs.length := by rw [List.size_toArray, ← r.length, List.length_map]
  refine call_all_walk (wpAny_pyIter_list pl.isList ⟨s.heap.objs.size, _, _, its.toArray.size, _, _, fun i => bs.getD i false, rfl, Walks.list hh s.heap.objs.size l (Nat.ne_of_lt hlt) its.toArray,
    ⟨⟨_, Heap.get?_push_size _ rfl, rfl, rfl⟩, let ⟨o, e, r⟩ := pl.isList; ⟨o, Heap.get?_push_of_some _ e, r⟩⟩, fun i v s2 Q2 E2 hP hQ => ?_, fun h' tk hk => ?_⟩)
  · have hP : its.toArray[i]? = some v := hP
    have hP : its[i]? = some v := by simpa using hP
    have hi : i < bs.length := by
      have := (List.getElem?_eq_some_iff.mp hP).1
      rw [← r.length, List.length_map] at this
      exact this
    have hb : (bs.map V.bl)[i]? = some (V.bl bs[i]) := by simp [hi]
    obtain ⟨u, e2, r2⟩ := r.get hb
    rw [hP] at e2
    cases e2
    cases r2
    refine wpAny_truthy_bool ?_
    have : bs.getD i false = bs[i] := by simp [List.getD_eq_getElem?_getD, hi]
    exact this ▸ hQ
  · rw [hlen, all_range_eq]
    have I1 : Inv X pins σ H { s with heap := h', toks := tk } := I.kept fun b o e => hk b o (by
      intro z
      have z : b = s.heap.objs.size := by simpa using z
      exact absurd (Heap.lt_size e) (by rw [z]; exact Nat.lt_irrefl _)) (Heap.get?_push_of_some _ e)
    exact ⟨.bl _, H, I1, rfl, q _ H (Same.refl H) (.bl _)⟩
theorem cd_sum (hc : X.calm = true) {ns : List Int} : CD X (.builtin "sum") [.list (ns.map PyData.int)] (.int ns.sum) := by
  intro pins s σ H xs us Q I rs ⟨h, q⟩
  obtain ⟨v, rfl, dv⟩ := h.one
  obtain ⟨l, vs, rfl, hl, d1⟩ := dv.of_lst
  obtain ⟨u, rfl, ru⟩ := vals1 rs
  cases ru
  have e1 := d1.of_ints
  subst e1
  obtain ⟨its, r, pl, hz⟩ := I.list hl
  have hi : IntsAre its ns := intsAre_of r
  obtain ⟨ys, ey⟩ := (hi.allInts : AllInts its.toArray).items
  have hh : X.A.handled = none := I.ok.hd hc
  have hl' : s.heap.IsList l (intItems ys) := ey ▸ pl.isList
  refine sum_intListG hh hl' fun h' tk t' hk => ?_
  have I1 : Inv X pins σ H { s with heap := h', toks := tk } := I.kept hk
  have en : ns = numsOf its := hi.numsOf.symm
  have es : preSum (numAt ys) ys.size = ns.sum := by
    rw [preSum_eq, List.take_of_length_le (by simp), en, ← nums_intItems ys]
    congr 2
    have := congrArg Array.toList ey
    simpa using this.symm
  rw [es]
  exact ⟨.int _, H, I1, ⟨_, rfl⟩, q _ H (Same.refl H) (.int _)⟩
def tyD : PyData → Value
  | .none => .type "NoneType"
  | .bool _ => .type "bool"
  | .int _ => .type "int"
  | .str _ => .type "str"
  | .list _ => .type "list"
  | .tuple _ => .type "tuple"
  | .dict es => match excC es with
    | some C => .ref C
    | none => .type "dict"
def ExcIsi (K : PySem.W.Frag) (C : Addr) : Prop := ∀ (a : Addr) (φ : Heap → Prop), (∀ h, φ h → ∃ o, h.get? a = some o ∧ o.cls = .ref C) → PySem.W.KitX K (.ref a) (.ref C) φ
theorem isinst_D {pins : List (Addr × Obj)} {σ : St} {H : Hp} {s : Shared} {A : Around} {E : Value → Shared → Prop} {Q : Value → Shared → Prop} {c : Value} {k : Bool} {v : V} {u : Value} (I : Inv X pins σ H s) (h : DV X.K H v d) (rv : RelV v u)
    (e : PySem.W.kitOne X.K (tyD d) c = some k) (hq : ∀ tk, Q (.bool k) { s with toks := tk }) (hX : ∀ C, d = excD C → ExcIsi X.K C := by intro _ z; cases z) (hX2 : ∀ C n, d = excRD C n → ExcIsi X.K C := by intro _ _ z; first | cases z | (unfold excD at z; cases z)) (hO : isObD d = false := by first | rfl | assumption) : wpAny (model X.prog X.w) A (call (.builtin "isinstance") [u, c]) Q E s := by
  cases h with
  | non => exact isinst_ok I rv .non e hq
  | bl b => exact isinst_ok I rv (.bl b) e hq
  | int i => exact isinst_ok I rv (.int i) e hq
  | str x => exact isinst_ok I rv (.str x) e hq
  | @tup a xs ds h t =>
    cases rv
    obtain ⟨its, _, ⟨o, h1, h2, _⟩, _⟩ := I.tuple h
    exact PySem.W.kia_one PySem.W.kitx_tuple I.kIn ⟨o, h1, h2⟩ e (fun z => nomatch z) hq
  | @lst a xs ds h t =>
    cases rv
    obtain ⟨its, _, pl, _⟩ := I.list h
    obtain ⟨o, h1, h2, _⟩ := pl.isList
    exact PySem.W.kia_one PySem.W.kitx_list I.kIn ⟨o, h1, h2⟩ e (fun z => nomatch z) hq
  | @dct a kvs es h t =>
    cases rv
    have e' : PySem.W.kitOne X.K (.type "dict") c = some k := by
      have z : tyD (.dict es) = (match excC es with | some C => Value.ref C | none => .type "dict") := rfl
      rw [z, excC_dvk t] at e
      exact e
    exact PySem.W.kia_one PySem.W.kitx_dict I.kIn (isD_at I (.inl ⟨kvs, .inl h⟩)).1 e' (fun z => nomatch z) hq
  | @exc a C h =>
    cases rv
    have e' : PySem.W.kitOne X.K (.ref C) c = some k := e
    exact PySem.W.kia_one (hX C rfl a _ fun h p => let ⟨o, _, h1, h2, _⟩ := p; ⟨o, h1, h2⟩) I.kIn (I.hok a _ h).1 e' (fun z => nomatch z) hq
  | @exr a C dx n h h' =>
    cases rv
    have e' : PySem.W.kitOne X.K (.ref C) c = some k := e
    exact PySem.W.kia_one (hX2 C n rfl a _ fun h p => let ⟨o, _, h1, h2, _⟩ := p; ⟨o, h1, h2⟩) I.kIn (I.hok a _ h).1 e' (fun z => nomatch z) hq
  | obj h n t => cases hO
  | dtt h => unfold ppE isObD at hO; cases hO
theorem ev_isi {k : Bool} {n : String} {x1 : Str} (ha : EV X G a da) (hg : Gl X "isinstance") (hm : X.mg "isinstance" = none) (hg1 : Gl X x1) (hm1 : X.mg x1 = none) (hv1 : bootBuiltins x1 = some (.type n)) (e : PySem.W.kitOne X.K (tyD da) (.type n) = some k)
    (hX : ∀ C, da = excD C → ExcIsi X.K C := by intro _ z; cases z) (hX2 : ∀ C n, da = excRD C n → ExcIsi X.K C := by intro _ _ z; first | cases z | (unfold excD at z; cases z)) (hO : isObD da = false := by first | rfl | assumption) (hn : x1 ≠ "__name__" := by decide) (hd1 : (x1 == ("__debug__" : Str)) = false := by decide) (hv : bootBuiltins "isinstance" = some (.builtin "isinstance") := by decide +kernel)
    (he : starEach [a, .Name x1 p2] X.env = (false, eval a X.env) :: starEach [.Name x1 p2] X.env := by rfl) (he2 : starEach [.Name x1 p2] X.env = (false, eval (.Name x1 p2) X.env) :: starEach [] X.env := by rfl)
    (hpl : (backTo pos (starEach [.Name x1 p2] X.env)).any (·.1) = false := by rfl) :
    EV X G (.Call (.Name "isinstance" p) [a, .Name x1 p2] [] pos) (.bool k) := by
  have cr : CallR X (.builtin "isinstance") (fun xs H Q => ∃ v, xs = [v, .ty n] ∧ DV X.K H v da ∧ Q (.bl k) H) := by
    intro pins s σ H xs us Q I rs ⟨v, ex, dv, q⟩
    subst ex
    obtain ⟨u, w, rfl, ru, rw'⟩ := vals2 rs
    cases rw'
    exact isinst_D I dv ru e (fun tk => ⟨.bl k, H, I.tok tk, rfl, q⟩) hX hX2 hO
  refine (pe_callB cr hg hm hv (pa_cons ha (pa_cons (pe_bltn (v := .ty n) hg1 hm1 hv1 rfl hn hd1) pa_nil he2) he) (by decide) (by decide) he hpl).imp fun σ H Q ⟨h, q⟩ => ⟨h, fun v H1 s1 d1 => ⟨v, rfl, d1, q _ H1 s1 (.bl k)⟩⟩
def spD (K : PySem.W.Frag) (F : List PyData → PyData → Prop) : Sp := fun vs H Q _ => ∃ ds d, DVs K H vs ds ∧ F ds d ∧ ∀ v H', Same H H' → DV K H' v d → Q v H'
def DFn (P : Program) (w : World) (K : PySem.W.Frag) (mg : Str → Option Value) (base : Heap) (k : Nat) (x : Str) (F : List PyData → PyData → Prop) : Prop :=
  ∃ f fd ps, FnOk P w K mg base CX0 k f fd ps (spD K F) ∧ mg x = some (.ref f) ∧ PySem.W.keepIn K (.ref f) = true ∧ Binds K fd ps []
theorem ev_call {k : Nat} {F : List PyData → PyData → Prop} (D : DFn X.prog X.w X.K X.mg X.base k x F) (hr : Room k X.A) (hg : Gl X x) (ha : AV X G (e :: es) ds) (hF : F ds d) (hdb : (x == ("__debug__" : Str)) = false := by decide)
    (he : starEach (e :: es) X.env = (false, eval e X.env) :: starEach es X.env := by rfl) (hpl : (backTo pos (starEach es X.env)).any (·.1) = false := by rfl) : EV X G (.Call (.Name x p) (e :: es) [] pos) d := by
  obtain ⟨f, fd, ps, ok, hm, hk, hb⟩ := D
  refine (pe_call ok hr hg hm hk hb .nil pass0 ha hdb he hpl).imp fun σ H Q ⟨h, q⟩ => ⟨h, fun vs H1 s1 d1 => ?_⟩
  show spD X.K F (vs ++ []) H1 Q E0
  rw [List.append_nil]
  exact ⟨ds, d, d1, hF, fun v H2 s2 d2 => q v H2 (s1.trans s2) d2⟩
theorem svs_cons {st : Stmt} {sts : List Stmt} {G1 : Gam} {o : Out} (h1 : SV X G st (.next G1)) (h2 : SVs X G1 sts o) : SVs X G (st :: sts) o :=
  (pss_cons h1 h2).imp fun D σ H ⟨h, q⟩ => ⟨h, fun σ' H' s' h' => ⟨h', by
    cases o with
    | next G2 => exact fun σ2 H2 s2 h2 => q σ2 H2 (s'.trans s2) h2
    | ret d => exact fun v H2 s2 h2 => q v H2 (s'.trans s2) h2⟩⟩
theorem svs_ret {st : Stmt} {sts : List Stmt} (h1 : SV X G st (.ret d)) : SVs X G (st :: sts) (.ret d) := by
  intro pins s σ H D I ⟨h, q⟩
  have z : PSs X (st :: sts) (fun D σ H => tDS X.K G (.ret d) D σ H) := by
    refine (pss_cons (t := fun D σ H => tDS X.K G (.ret d) D σ H) (u := tNever) h1 pss_never).imp fun D σ H ⟨h, q⟩ => ⟨h, q⟩
  exact z pins s σ H D I ⟨h, q⟩
theorem sv_ret (h : EV X G e d) : SV X G (.Return (some e) pos) (.ret d) := (ps_ret h).imp fun D σ H ⟨h, q⟩ => ⟨h, q⟩
theorem sv_set {i : Nat} (hN : X.N.Nodup) (hi : X.N[i]? = some x) (hx : Loc X.env.scope x) (h : EV X G e d) (hs : swapsWith e (some (.Name x p)) pos.line X.env = pure false := by rfl)
    (hf : X.fn x = true ∨ X.env.scope.names.lookup x = some .local := by first | exact .inl rfl | exact .inr rfl | assumption) : SV X G (.Assign [.Name x p] e pos) (.next (G.set i (some d))) :=
  (ps_set hN hi hx h hs hf).imp fun D σ H ⟨h, q⟩ => ⟨h, fun v H1 s1 d1 => q _ H1 s1 ((h.mono s1).set d1)⟩
structure ItD (K : PySem.W.Frag) (J : It) (ds : List PyData) (H0 : Hp) : Prop where
  go : ∀ i H, Same H0 H → i < ds.length → J.go i H
  yld : ∀ i H v H', Same H0 H → i < ds.length → J.yld i H v H' → Same H H' ∧ ∃ d, ds[i]? = some d ∧ DV K H' v d
  stop : ∀ i H, Same H0 H → ds.length ≤ i → J.stop i H
theorem PI.imp {tg : Expr} {t t' : TI} (h : PI X tg e t) (m : ∀ σ H R, t' σ H R → t σ H R) : PI X tg e t' := fun pins s σ H R I q => h pins s σ H R I (m σ H R q)
end
end L2
set_option maxRecDepth 100000
set_option maxHeartbeats 4000000
namespace L2
open PySem PySem.Spec PyProof.Rows
def outG (ix : List Nat) (G : Gam) : Gam := ix.map fun i => (G[i]?).getD none
theorem SD.comp {K : PySem.W.Frag} {H : Hp} {σ : St} {G : Gam} (h : SD K H σ G) (k : Nat) (ix : List Nat) : SD K H (List.replicate k none ++ outS ix σ) (List.replicate k none ++ outG ix G) := by
  refine ⟨by simp [outS, outG], fun i d e => ?_⟩
  rcases Nat.lt_or_ge i k with hi | hi
  · rw [List.getElem?_append_left (by simpa using hi), List.getElem?_replicate, if_pos hi] at e
    cases e
  · rw [List.getElem?_append_right (by simpa using hi), List.length_replicate] at e ⊢
    unfold outG at e
    unfold outS
    rw [List.getElem?_map] at e ⊢
    cases q : ix[i - k]? with
    | none => rw [q] at e; cases e
    | some j =>
      rw [q] at e
      have e : (G[j]?).getD none = some d := Option.some.inj e
      have e' : G[j]? = some (some d) := by
        cases z : G[j]? with
        | none => rw [z] at e; cases e
        | some w => rw [z] at e; have e : w = some d := e; rw [e]
      obtain ⟨v, a, b⟩ := h.2 j d e'
      exact ⟨v, by rw [Option.map_some, a]; rfl, b⟩
section
variable {X : Cx} {G : Gam} {elt target iter : Expr} {ifs : List Expr} {scope : Scope} {pos : Pos} {N : List Str} {ix : List Nat} {ds : List PyData}
theorem PE.ex {ι : Type} {e : Expr} {t : ι → TE} {p : ι → Prop} (h : ∀ i, p i → PE X e (t i)) : PE X e (fun σ H Q => ∃ i, p i ∧ t i σ H Q) := fun pins s σ H Q I ⟨i, hi, q⟩ => h i hi pins s σ H Q I q
theorem PF.ex {ι : Type} {es : List Expr} {t : ι → TT} {p : ι → Prop} (h : ∀ i, p i → PF X es (t i)) : PF X es (fun σ H Q => ∃ i, p i ∧ t i σ H Q) := fun pins s σ H Q I ⟨i, hi, q⟩ => h i hi pins s σ H Q I q
structure BindD (K : PySem.W.Frag) (k : Nat) (g : TG) (B : PyData → Gam → Gam) (d : PyData) : Prop where
  to : ∀ (v : V) σ H G (Q : St → Hp → Prop), SD K H σ G → DV K H v d → (∀ σ2, SD K H σ2 (B d G) → Q σ2 H) → g v σ H Q
end
def startG (N : List Str) (ds : List PyData) : Gam := ds.map some ++ List.replicate (N.length - ds.length) none
theorem SD.start {K : PySem.W.Frag} {H : Hp} {N : List Str} {vs : List V} {ds : List PyData} (h : DVs K H vs ds) : SD K H (start N vs) (startG N ds) := by
  refine ⟨by simp [L2.start, startG, h.length], fun i d e => ?_⟩
  unfold startG at e
  unfold L2.start
  rcases Nat.lt_or_ge i ds.length with hi | hi
  · rw [List.getElem?_append_left (by simpa using hi), List.getElem?_map] at e
    rw [List.getElem?_append_left (by simpa [h.length] using hi), List.getElem?_map]
    cases q : ds[i]? with
    | none => rw [q] at e; cases e
    | some d' =>
      rw [q] at e
      have e : d' = d := by
        have := Option.some.inj e
        exact Option.some.inj this
      subst e
      obtain ⟨v, a, b⟩ := h.get q
      exact ⟨v, by rw [a]; rfl, b⟩
  · rw [List.getElem?_append_right (by simpa using hi), List.getElem?_replicate] at e
    split at e <;> cases e
section
variable {P : Program} {w : World} {K : PySem.W.Frag} {mg : Str → Option Value} {base : Heap}
theorem Fun.data {x qual : Str} {st : Stmt} {f : Addr} {fd : FuncData} {N ps : List Str} {k : Nat} {F : List PyData → PyData → Prop} (F0 : Fun K x qual st f fd) (hm : mg x = some (.ref f)) (hb : Binds K fd ps []) (S : FnScope N ps (defScope st)) (len : ∀ ds d, F ds d → ds.length = ps.length)
    (hbody : ∀ (cdv : Value) (A : Around) (outer : List Env) (s : Shared) (H : Hp) (E : XK) (ds : List PyData) (d : PyData), Room k (A.deeper (envOfC qual (defScope st) s.heap.objs.size f cdv)) → F ds d →
      SVs (cxOf CX0 P w K mg base N qual (defScope st) f cdv A outer s H E).nox (startG N ds) (defBody st) (.ret d)) : DFn P w K mg base (k + 1) x F := by
  refine ⟨f, fd, ps, F0.ok S (fun vs H Q E ⟨ds, d, h1, h2, _⟩ => h1.length.trans (len ds d h2)) (fun cdv A outer s H vs Q E hr ⟨ds, d, h1, h2, q⟩ => ⟨_, hbody cdv A outer s H E ds d hr h2, SD.start h1, q⟩), hm, F0.kp, hb⟩
end
theorem DFn.mono {P : Program} {w : World} {K : PySem.W.Frag} {mg : Str → Option Value} {base : Heap} {j k : Nat} {x : Str} {F : List PyData → PyData → Prop} (D : DFn P w K mg base j x F) (h : j ≤ k) : DFn P w K mg base k x F := by
  obtain ⟨f, fd, ps, ok, r⟩ := D
  exact ⟨f, fd, ps, ok.mono h, r⟩
end L2
set_option maxRecDepth 100000
set_option maxHeartbeats 4000000
namespace L2
open PySem PySem.Spec PyProof.Rows
mutual
def noL : PyData → Bool
  | .none => true
  | .bool _ => true
  | .int _ => true
  | .str _ => true
  | .tuple xs => noLs xs
  | .list _ => false
  | .dict _ => false
def noLs : List PyData → Bool
  | [] => true
  | x :: r => noL x && noLs r
end
def dele (H : Hp) (p : Addr) : Hp := fun b => if b = p then none else H b
theorem dele_same {H : Hp} {p : Addr} : dele H p p = none := by unfold dele; rw [if_pos rfl]
theorem dele_ne {H : Hp} {p b : Addr} (h : b ≠ p) : dele H p b = H b := by unfold dele; rw [if_neg h]
theorem upd_dele {H : Hp} {p : Addr} {o : HO} (h : H p = some o) : upd (dele H p) p o = H := by
  funext b
  by_cases hb : b = p
  · subst hb; rw [upd_same, h]
  · rw [upd_ne hb, dele_ne hb]
mutual
theorem DV.dele {K : PySem.W.Frag} {H : Hp} {p : Addr} {ws : List V} (hp : H p = some (.lst ws)) : ∀ {v : V} {d : PyData}, DV K H v d → noL d = true → DV K (L2.dele H p) v d
  | _, _, .non, _ => .non
  | _, _, .bl b, _ => .bl b
  | _, _, .int i, _ => .int i
  | _, _, .str x, _ => .str x
  | _, _, .tup (a := a) h t, f => by
    refine .tup ?_ (DVs.dele hp t (by unfold noL at f; exact f))
    rcases h with (h | ⟨o, h⟩) | h
    · have : a ≠ p := fun z => by subst z; rw [hp] at h; cases h
      exact .inl (.inl (by rw [dele_ne this]; exact h))
    · have : a ≠ p := fun z => by subst z; rw [hp] at h; cases h
      exact .inl (.inr ⟨o, by rw [dele_ne this]; exact h⟩)
    · exact .inr h
  | _, _, .lst h t, f => by unfold noL at f; cases f
  | _, _, .dct h t, f => by unfold noL at f; cases f
  | _, _, .exc h, f => by unfold noL at f; cases f
  | _, _, .exr h h', f => by unfold noL at f; cases f
  | _, _, .obj h n t, f => by unfold noL at f; cases f
  | _, _, .dtt h, f => by unfold noL at f; cases f
theorem DVs.dele {K : PySem.W.Frag} {H : Hp} {p : Addr} {ws : List V} (hp : H p = some (.lst ws)) : ∀ {vs : List V} {ds : List PyData}, DVs K H vs ds → noLs ds = true → DVs K (L2.dele H p) vs ds
  | _, _, .nil, _ => .nil
  | _, _, .cons h t, f => by
    unfold noLs at f
    rw [Bool.and_eq_true] at f
    exact .cons (DV.dele hp h f.1) (DVs.dele hp t f.2)
end
def OSt (K : PySem.W.Frag) (H0 : Hp) (p : Addr) (i : Nat) (G : Gam) (ds : List PyData) (σ : St) (H : Hp) : Prop :=
  ∃ Hb vs, H = upd Hb p (.lst vs) ∧ Hb p = none ∧ Same H0 Hb ∧ SD K Hb σ G ∧ σ[i]? = some (some (.ref p)) ∧ DVs K Hb vs ds
abbrev plusL (G : Gam) (i : Nat) (ds : List PyData) : Gam := G.set i (some (.list ds))
theorem OSt.sd {K : PySem.W.Frag} {H0 : Hp} {p : Addr} {i : Nat} {G : Gam} {ds : List PyData} {σ : St} {H : Hp} (h : OSt K H0 p i G ds σ H) : SD K H σ (plusL G i ds) := by
  obtain ⟨Hb, vs, rfl, hn, _, hσ, hi, dv⟩ := h
  have h1 := hσ.mono (Same.new (o := .lst vs) hn)
  have h2 := h1.set (i := i) (v := .ref p) (d := .list ds) (.lst (SqL.of upd_same) (dv.mono (Same.new hn)))
  have e : σ.set i (some (V.ref p)) = σ := by
    refine List.ext_getElem? fun j => ?_
    by_cases hj : i = j
    · subst hj
      rw [List.getElem?_set_self (List.getElem?_eq_some_iff.mp hi).1, hi]
    · rw [List.getElem?_set_ne hj]
  rw [e] at h2
  exact h2
theorem OSt.step {K : PySem.W.Frag} {H0 : Hp} {p : Addr} {i : Nat} {G : Gam} {ds : List PyData} {σ : St} {H H' : Hp} (h : OSt K H0 p i G ds σ H) (s : Same H H') :
    OSt K H0 p i G ds σ H' ∧ ∀ v d, DV K H' v d → noL d = true → ∃ Hb vs, H' = upd Hb p (.lst vs) ∧ Hb p = none ∧ Same H0 Hb ∧ SD K Hb σ G ∧ σ[i]? = some (some (.ref p)) ∧ DVs K Hb vs ds ∧ DV K Hb v d := by
  obtain ⟨Hb, vs, rfl, hn, s0, hσ, hi, dv⟩ := h
  have hp : H' p = some (.lst vs) := s p _ upd_same
  have sb : Same Hb (dele H' p) := fun b o e => by
    have hb : b ≠ p := ne_of_none e hn
    rw [dele_ne hb]
    exact s b o (by rw [upd_ne hb]; exact e)
  refine ⟨⟨dele H' p, vs, (upd_dele hp).symm, dele_same, s0.trans sb, hσ.mono sb, hi, dv.mono sb⟩, fun v d q f => ⟨dele H' p, vs, (upd_dele hp).symm, dele_same, s0.trans sb, hσ.mono sb, hi, dv.mono sb, DV.dele hp q f⟩⟩
section
variable {X : Cx} {H0 : Hp} {p : Addr} {i j : Nat} {Pre Mid Post PreA PreB : Gam → List PyData → Prop} {e c : Expr} {pos pos' pos2 : Pos} {x : Str}
variable {R : PyData → Prop} {G : Gam} {d : PyData}
end
section
variable {P : Program} {w : World} {K : PySem.W.Frag} {mg : Str → Option Value} {base : Heap}
end
end L2
set_option maxRecDepth 100000
set_option maxHeartbeats 4000000
namespace L2
open PySem PySem.Spec PyProof.Rows
section
variable {X : Cx} {G : Gam} {a b c e : Expr} {es rest : List Expr} {pos p p2 p3 : Pos} {d d' da db dc : PyData} {ds : List PyData} {x : Str}
theorem ev_eq (h : EV X G e d) (q : d = d') : EV X G e d' := q ▸ h
theorem tv_eq {k k' : Bool} (h : TV X G e k) (q : k = k') : TV X G e k' := q ▸ h
end
mutual
theorem eqv_self : ∀ (d : PyData), d.canLay0 = true → PyData.eqv d d = true
  | .none, _ => rfl
  | .bool b, _ => by simp [PyData.eqv]
  | .int i, _ => by simp [PyData.eqv]
  | .str x, _ => by simp [PyData.eqv]
  | .list xs, h => by unfold PyData.eqv; exact eqvAll_self xs (by simpa [PyData.canLay0] using h)
  | .tuple xs, h => by unfold PyData.eqv; exact eqvAll_self xs (by simpa [PyData.canLay0] using h)
  | .dict _, h => by simp [PyData.canLay0] at h
theorem eqvAll_self : ∀ (ds : List PyData), PyData.canLayAll0 ds = true → PyData.eqvAll ds ds = true
  | [], _ => rfl
  | d :: r, h => by
    have h' : d.canLay0 = true ∧ PyData.canLayAll0 r = true := by simpa [PyData.canLayAll0] using h
    unfold PyData.eqvAll
    rw [eqv_self d h'.1, eqvAll_self r h'.2]
    rfl
end
theorem atI_of {xs : List PyData} {i : Int} {d : PyData} (h0 : 0 ≤ i) (h : xs[i.toNat]? = some d) : atI xs i = some d := by
  have := atI_nat h
  rwa [Int.toNat_of_nonneg h0] at this
section
variable {X : Cx} {G : Gam} {a b c e : Expr} {es : List Expr} {pos p : Pos} {d da db dc : PyData} {ds : List PyData} {x : Str}
end
theorem at_ints {zs : List Int} {i : Int} (h0 : 0 ≤ i) (h : i < zs.length) : atI (zs.map PyData.int) i = some (.int (zs.getD i.toNat 0)) := by
  have hi : i.toNat < zs.length := by omega
  exact atI_of h0 (by simp [hi])
structure FnIn (K : PySem.W.Frag) (x : Str) (st : Stmt) (f : Addr) (fd : FuncData) : Prop where
  ns : PySem.W.nsIn K mainGlobals x = some (some (.ref f))
  fn : Fun K x x st f fd
theorem fnIn_mk {K : PySem.W.Frag} {x : Str} {st : Stmt} {f : Addr} {oc : Value} {od an : Option Addr} {osl : Array (Option Value)} {kV doc pm cdv ct : Value} (a : PySem.W.nsIn K mainGlobals x = some (some (.ref f)))
    (l : K.lookup f = some ⟨oc, od, .func (PySem.W.fnOf x x (defArgs st) (defBody st) (defScope st) .none kV doc pm an cdv ct), osl⟩) (c : PySem.W.codeIn K cdv x = true) (k : PySem.W.keepIn K (.ref f) = true) : ∃ f fd, FnIn K x st f fd :=
  ⟨f, _, a, fun_mk l c k⟩
section
variable {P : Program} {w : World} {K : PySem.W.Frag} {mg : Str → Option Value} {base : Heap}
end
end L2
set_option maxRecDepth 100000
set_option maxHeartbeats 4000000
namespace L2
open PySem PySem.Spec PyProof.Rows
open Builtin.SmallTypes (nextOf)
section
variable {prog : Program} {w : World} {A : Around} {E : Value → Shared → Prop} {s : Shared}
structure ZAp (z a b i j t : Addr) : Prop where
  az : a ≠ z
  bz : b ≠ z
  iz : i ≠ z
  jz : j ≠ z
  ab : a ≠ b
  ai : a ≠ i
  aj : a ≠ j
  bi : b ≠ i
  bj : b ≠ j
  ij : i ≠ j
  tz : t ≠ z
  tb : t ≠ b
  ti : t ≠ i
  tj : t ≠ j
end
end L2
set_option maxRecDepth 100000
set_option maxHeartbeats 4000000
namespace L2
open PySem PySem.Spec PyProof.Rows
structure ZAp0 (z a b i j : Addr) : Prop where
  az : a ≠ z
  bz : b ≠ z
  iz : i ≠ z
  jz : j ≠ z
  ab : a ≠ b
  ai : a ≠ i
  aj : a ≠ j
  bi : b ≠ i
  bj : b ≠ j
  ij : i ≠ j
abbrev zs1 (h : Heap) (x : Str) (tk : Tok) : Heap := h.push { cls := .type (strIterType x), data := .fields #[.str x tk, .int 0 0] }
abbrev zs2 (h : Heap) (x : Str) (tk : Tok) (t : Addr) : Heap := (zs1 h x tk).push { cls := .type "tuple_iterator", data := .fields #[.ref t, .int 0 0] }
abbrev zs3 (h : Heap) (x : Str) (tk : Tok) (t : Addr) : Heap := (zs2 h x tk t).push { cls := .type "tuple", data := .seq #[.ref h.objs.size, .ref (zs1 h x tk).objs.size] }
abbrev zs4 (h : Heap) (x : Str) (tk : Tok) (t : Addr) : Heap := (zs3 h x tk t).push { cls := .type "tuple", data := .seq #[.none, .none] }
abbrev zs5 (h : Heap) (x : Str) (tk : Tok) (t : Addr) : Heap := (zs4 h x tk t).push { cls := .type "zip", data := .fields #[.none, .bool false, .bool false, .ref (zs2 h x tk t).objs.size, .ref (zs3 h x tk t).objs.size] }
end L2
set_option maxRecDepth 100000
set_option maxHeartbeats 4000000
namespace L2
open PySem PySem.Spec PyProof.Rows
section
variable {X : Cx} {G : Gam} {a b : Expr} {pos p : Pos}
end
end L2
namespace PySem.SeqAt
open AutoSeq1 (wpAny_loadPart')
open MeetsSeq MeetsSeq2 MeetsSeq3 SeqRoads2
end PySem.SeqAt
set_option maxRecDepth 100000
set_option maxHeartbeats 4000000
namespace L2
open PySem PySem.Spec PyProof.Rows
theorem DVs.strs {K : PySem.W.Frag} {H : Hp} : ∀ (ss : List Str), DVs K H (ss.map V.str) (ss.map PyData.str)
  | [] => .nil
  | x :: r => .cons (.str x) (DVs.strs r)
section
variable {X : Cx} {G : Gam} {a b e : Expr} {pos p p2 : Pos} {d : PyData} {x : Str}
end
end L2
set_option maxRecDepth 100000
set_option maxHeartbeats 4000000
namespace L2
open PySem PySem.Spec PyProof.Rows
def spFL (K : PySem.W.Frag) (F : List PyData → List PyData → Prop) : Sp := fun vs H Q _ => ∃ ds ws, DVs K H vs ds ∧ F ds ws ∧ ∀ p us H', H p = none → Same H H' → H' p = some (.lst us) → DVs K H' us ws → Q (.ref p) H'
def FFn (P : Program) (w : World) (K : PySem.W.Frag) (mg : Str → Option Value) (base : Heap) (k : Nat) (x : Str) (F : List PyData → List PyData → Prop) : Prop :=
  ∃ f fd ps, FnOk P w K mg base CX0 k f fd ps (spFL K F) ∧ mg x = some (.ref f) ∧ PySem.W.keepIn K (.ref f) = true ∧ Binds K fd ps []
theorem FFn.data {P : Program} {w : World} {K : PySem.W.Frag} {mg : Str → Option Value} {base : Heap} {k : Nat} {x : Str} {F : List PyData → List PyData → Prop} (h : FFn P w K mg base k x F) : DFn P w K mg base k x (fun ds d => ∃ ws, F ds ws ∧ d = .list ws) := by
  obtain ⟨f, fd, ps, ok, r⟩ := h
  exact ⟨f, fd, ps, ok.imp fun vs H Q E ⟨ds, d, h1, ⟨ws, h2, e⟩, q⟩ => ⟨ds, ws, h1, h2, fun p us H' hp s' hl dv => q _ H' s' (by rw [e]; exact .lst (SqL.of hl) dv)⟩, r⟩
section
variable {X : Cx} {G : Gam} {c e : Expr} {es : List Expr} {pos pos' pos2 : Pos} {ws : List PyData} {sts A B : List Stmt}
end
section
variable {P : Program} {w : World} {K : PySem.W.Frag} {mg : Str → Option Value} {base : Heap}
end
section
variable {X : Cx} {G G2 : Gam} {e : Expr} {es : List Expr} {pos pos' pos2 : Pos} {ws ds : List PyData} {sts : List Stmt} {i : Nat} {x y : Str}
def tDF (K : PySem.W.Frag) (G : Gam) (ws : List PyData) : TE := fun σ H Q => SD K H σ G ∧ ∀ p us H', H p = none → Same H H' → H' p = some (.lst us) → DVs K H' us ws → Q (.ref p) H'
abbrev EVF (X : Cx) (G : Gam) (e : Expr) (ws : List PyData) : Prop := PE X e (tDF X.K G ws)
end
section
variable {X : Cx} {G : Gam} {a : Expr} {pos : Pos} {da : PyData}
theorem tv_isN {j pos'} {k : Bool} (ha : EV X G a da) (hk : nonD da = k) : TV X G (.Compare a [.Is] [.Constant .none j pos'] pos) k :=
  (pt_cmp (pc_isN ha)).imp fun σ H Q ⟨h, q⟩ => ⟨h, fun v H' s' dv => ⟨k, by rw [dv.isNon, hk], q H' s'⟩⟩
end
end L2
set_option maxRecDepth 100000
set_option maxHeartbeats 4000000
namespace L2
open PySem PySem.Spec PyProof.Rows
end L2
set_option maxRecDepth 100000
set_option maxHeartbeats 4000000
namespace L2
open PySem PySem.Spec PyProof.Rows
def TabV (K : PySem.W.Frag) (H : Hp) : List (Key × V) → List (Str × PyData) → Prop
  | [], [] => True
  | kv :: r, q :: t => kv.1 = .inr q.1 ∧ DV K H kv.2 q.2 ∧ TabV K H r t
  | _, _ => False
mutual
def noK : PyData → Bool
  | .none => true
  | .bool _ => true
  | .int _ => true
  | .str _ => true
  | .tuple xs => noKs xs
  | .list xs => noKs xs
  | .dict _ => false
def noKs : List PyData → Bool
  | [] => true
  | x :: r => noK x && noKs r
end
theorem dict_ne {H : Hp} {p a : Addr} {kvs : List (Key × V)} {o : HO} (hp : H p = some (.dK kvs)) (e : H a = some o) (n : ∀ k, o ≠ .dK k) : a ≠ p := fun c => by subst c; rw [hp] at e; cases e; exact n _ rfl
mutual
theorem DV.noDict {K : PySem.W.Frag} {H H' : Hp} {p : Addr} {kvs : List (Key × V)} (hp : H p = some (.dK kvs)) (hH : ∀ a, a ≠ p → H' a = H a) : ∀ {v : V} {d : PyData}, DV K H v d → noK d = true → DV K H' v d
  | _, _, .non, _ => .non
  | _, _, .bl b, _ => .bl b
  | _, _, .int i, _ => .int i
  | _, _, .str x, _ => .str x
  | _, _, .tup (a := a) h t, f => by
    refine .tup ?_ (DVs.noDict hp hH t (by unfold noK at f; exact f))
    rcases h with (h | ⟨o, h⟩) | h
    · exact .inl (.inl (by rw [hH a (dict_ne hp h fun _ c => by cases c)]; exact h))
    · exact .inl (.inr ⟨o, by rw [hH a (dict_ne hp h fun _ c => by cases c)]; exact h⟩)
    · exact .inr h
  | _, _, .lst (a := a) h t, f => by
    refine .lst ?_ (DVs.noDict hp hH t (by unfold noK at f; exact f))
    rcases h with (h | ⟨o, h⟩) | h
    · exact .inl (.inl (by rw [hH a (dict_ne hp h fun _ c => by cases c)]; exact h))
    · exact .inl (.inr ⟨o, by rw [hH a (dict_ne hp h fun _ c => by cases c)]; exact h⟩)
    · exact .inr h
  | _, _, .dct h t, f => by unfold noK at f; cases f
  | _, _, .exc h, f => by unfold noK at f; cases f
  | _, _, .exr h h', f => by unfold noK at f; cases f
  | _, _, .obj h n t, f => by unfold noK at f; cases f
  | _, _, .dtt h, f => by unfold noK at f; cases f
theorem DVs.noDict {K : PySem.W.Frag} {H H' : Hp} {p : Addr} {kvs : List (Key × V)} (hp : H p = some (.dK kvs)) (hH : ∀ a, a ≠ p → H' a = H a) : ∀ {v : List V} {d : List PyData}, DVs K H v d → noKs d = true → DVs K H' v d
  | _, _, .nil, _ => .nil
  | _, _, .cons h t, f => by
    unfold noKs at f
    rw [Bool.and_eq_true] at f
    exact .cons (DV.noDict hp hH h f.1) (DVs.noDict hp hH t f.2)
end
theorem TabV.noDict {K : PySem.W.Frag} {H H' : Hp} {p : Addr} {kvs : List (Key × V)} (hp : H p = some (.dK kvs)) (hH : ∀ a, a ≠ p → H' a = H a) : ∀ {r : List (Key × V)} {t : List (Str × PyData)}, TabV K H r t → (t.all fun q => noK q.2) = true → TabV K H' r t
  | [], [], _, _ => True.intro
  | _ :: _, q :: t, ⟨a, b, c⟩, f => by
    rw [List.all_cons, Bool.and_eq_true] at f
    exact ⟨a, b.noDict hp hH f.1, TabV.noDict hp hH c f.2⟩
  | [], _ :: _, h, _ => h
  | _ :: _, [], h, _ => h
theorem TabV.mono {K : PySem.W.Frag} {H H' : Hp} (e : Same H H') : ∀ {r : List (Key × V)} {t : List (Str × PyData)}, TabV K H r t → TabV K H' r t
  | [], [], _ => True.intro
  | _ :: _, _ :: _, ⟨a, b, c⟩ => ⟨a, b.mono e, TabV.mono e c⟩
  | [], _ :: _, h => h
  | _ :: _, [], h => h
theorem TabV.length {K : PySem.W.Frag} {H : Hp} : ∀ {r : List (Key × V)} {t : List (Str × PyData)}, TabV K H r t → r.length = t.length
  | [], [], _ => rfl
  | _ :: _, _ :: _, ⟨_, _, c⟩ => by rw [List.length_cons, List.length_cons, TabV.length c]
  | [], _ :: _, h => h.elim
  | _ :: _, [], h => h.elim
theorem TabV.keys {K : PySem.W.Frag} {H : Hp} : ∀ {r : List (Key × V)} {t : List (Str × PyData)}, TabV K H r t → r.map (·.1) = t.map fun q => .inr q.1
  | [], [], _ => rfl
  | _ :: _, _ :: _, ⟨a, _, c⟩ => by rw [List.map_cons, List.map_cons, TabV.keys c, a]
  | [], _ :: _, h => h.elim
  | _ :: _, [], h => h.elim
def tabGet (t : List (Str × PyData)) (s : Str) : Option PyData := (t.find? fun q => q.1 == s).map (·.2)
theorem TabV.val {K : PySem.W.Frag} {H : Hp} {s : Str} : ∀ {r : List (Key × V)} {t : List (Str × PyData)}, TabV K H r t → (∃ v d, valV r (.inr s) = some v ∧ tabGet t s = some d ∧ DV K H v d) ∨ (valV r (.inr s) = none ∧ tabGet t s = none)
  | [], [], _ => .inr ⟨rfl, rfl⟩
  | kv :: r, q :: t, ⟨a, b, c⟩ => by
    by_cases h : q.1 = s
    · refine .inl ⟨kv.2, q.2, valV_pos (by rw [a, h]), ?_, b⟩
      unfold tabGet
      rw [List.find?_cons, beq_iff_eq.mpr h]
      rfl
    · rw [valV_neg (by rw [a]; exact fun c => h (by cases c; rfl))]
      have : tabGet (q :: t) s = tabGet t s := by
        unfold tabGet
        rw [List.find?_cons, beq_eq_false_iff_ne.mpr h]
      rw [this]
      exact TabV.val c
  | [], _ :: _, h => h.elim
  | _ :: _, [], h => h.elim
section
variable {X : Cx} {G : Gam} {e f : Expr} {pos p p2 apos : Pos} {d d0 : PyData} {x : Str} {keys : List (Option Expr)} {values : List Expr} {tab : List (Str × PyData)}
end
end L2
set_option maxRecDepth 100000
set_option maxHeartbeats 4000000
namespace L2
open PySem PySem.Spec PyProof.Rows
section
variable {X : Cx} {G : Gam} {o e : Expr} {pos p p2 : Pos} {d : PyData} {x : Str}
end
end L2
set_option maxRecDepth 100000
set_option maxHeartbeats 1000000
namespace L2
open PySem PySem.Spec PyProof.Rows
section
variable {X : Cx} {G : Gam} {H0 : Hp} {p : Addr} {i j : Nat} {Pre Mid Post : Gam → List PyData → Prop} {a b e c : Expr} {es : List Expr} {pos pos' pos2 : Pos} {x : Str} {ws xs ys : List PyData} {d : PyData}
theorem evf_lst (h : AV X G es ws) (hz : ws.length ≤ sizeLine) : EVF X G (.List es pos) ws :=
  (pe_lst h).imp fun σ H Q ⟨h, q⟩ => ⟨h, fun vs H1 s1 d1 => ⟨by rw [d1.length]; exact hz, fun p hp => q p vs _ (s1.free hp) (s1.trans (Same.new hp)) upd_same (d1.mono (Same.new hp))⟩⟩
end
end L2
set_option maxRecDepth 100000
set_option maxHeartbeats 1000000
namespace L2
open PySem PySem.Spec PyProof.Rows
def hasK (es : List (PyData × PyData)) (k : Key) : Bool := es.any fun q => PyData.eqv q.1 (keyD k)
theorem keyD_eqv (a b : Key) : PyData.eqv (keyD a) (keyD b) = decide (a = b) := by
  cases a <;> cases b <;> simp [keyD, PyData.eqv] <;> (rw [Bool.eq_iff_iff]; simp)
theorem DVk.has {K : PySem.W.Frag} {H : Hp} {k : Key} : ∀ {kvs : List (Key × V)} {es : List (PyData × PyData)}, DVk K H kvs es → (valV kvs k).isSome = hasK es k
  | _, _, .nil => rfl
  | _, _, .cons (k := a) (x := x) (xs := xs) (ds := ds) h t => by
    have ih := DVk.has (k := k) t
    rw [← valV_any] at ih ⊢
    unfold hasK at ih ⊢
    rw [List.any_cons, List.any_cons, ih, keyD_eqv]
theorem DVk.length {K : PySem.W.Frag} {H : Hp} : ∀ {kvs : List (Key × V)} {es : List (PyData × PyData)}, DVk K H kvs es → kvs.length = es.length
  | _, _, .nil => rfl
  | _, _, .cons _ t => by rw [List.length_cons, List.length_cons, DVk.length t]
def putD (es : List (PyData × PyData)) (k : Key) (d : PyData) : List (PyData × PyData) := if hasK es k = true then es.map (fun q => if PyData.eqv q.1 (keyD k) = true then (q.1, d) else q) else es ++ [(keyD k, d)]
theorem DVk.app {K : PySem.W.Frag} {H : Hp} {k : Key} {x : V} {d : PyData} (hx : DV K H x d) : ∀ {kvs : List (Key × V)} {es : List (PyData × PyData)}, DVk K H kvs es → DVk K H (kvs ++ [(k, x)]) (es ++ [(keyD k, d)])
  | _, _, .nil => .cons hx .nil
  | _, _, .cons h t => .cons h (DVk.app hx t)
theorem DVk.repl {K : PySem.W.Frag} {H : Hp} {k : Key} {x : V} {d : PyData} (hx : DV K H x d) : ∀ {kvs : List (Key × V)} {es : List (PyData × PyData)}, DVk K H kvs es → DVk K H (kvs.map fun kv => if kv.1 = k then (kv.1, x) else kv) (es.map fun q => if PyData.eqv q.1 (keyD k) = true then (q.1, d) else q)
  | _, _, .nil => .nil
  | _, _, .cons (k := a) h t => by
    rw [List.map_cons, List.map_cons]
    by_cases e : a = k
    · rw [if_pos e, if_pos (by rw [keyD_eqv]; exact decide_eq_true e)]
      exact .cons hx (DVk.repl hx t)
    · rw [if_neg e, if_neg (by rw [keyD_eqv, decide_eq_false e]; simp)]
      exact .cons h (DVk.repl hx t)
theorem DVk.put {K : PySem.W.Frag} {H : Hp} {k : Key} {x : V} {d : PyData} {kvs : List (Key × V)} {es : List (PyData × PyData)} (h : DVk K H kvs es) (hx : DV K H x d) : DVk K H (putK kvs k x) (putD es k d) := by
  unfold putK putD
  rw [valV_any, h.has]
  split
  · exact h.repl hx
  · exact h.app hx
section
variable {X : Cx} {G : Gam} {H0 : Hp} {p : Addr} {i j : Nat} {a b e c : Expr} {pos pos' pos2 : Pos} {x : Str} {d : PyData} {es : List (PyData × PyData)}
end
mutual
theorem DVk.noDict {K : PySem.W.Frag} {H H' : Hp} {p : Addr} {kvs : List (Key × V)} (hp : H p = some (.dK kvs)) (hH : ∀ a, a ≠ p → H' a = H a) : ∀ {v : List (Key × V)} {d : List (PyData × PyData)}, DVk K H v d → (d.all fun q => noK q.2) = true → DVk K H' v d
  | _, _, .nil, _ => .nil
  | _, _, .cons h t, f => by
    rw [List.all_cons, Bool.and_eq_true] at f
    exact .cons (DV.noDict hp hH h f.1) (DVk.noDict hp hH t f.2)
end
abbrev plusD (G : Gam) (i : Nat) (es : List (PyData × PyData)) : Gam := G.set i (some (.dict es))
def ODt (K : PySem.W.Frag) (H0 : Hp) (p : Addr) (i : Nat) (G : Gam) (es : List (PyData × PyData)) (σ : St) (H : Hp) : Prop :=
  ∃ Hb kvs, H = upd Hb p (.dK kvs) ∧ Hb p = none ∧ Same H0 Hb ∧ SD K Hb σ G ∧ σ[i]? = some (some (.ref p)) ∧ DVk K Hb kvs es
theorem ODt.sd {K : PySem.W.Frag} {H0 : Hp} {p : Addr} {i : Nat} {G : Gam} {es : List (PyData × PyData)} {σ : St} {H : Hp} (h : ODt K H0 p i G es σ H) : SD K H σ (plusD G i es) := by
  obtain ⟨Hb, kvs, rfl, hn, s0, hσ, hi, dv⟩ := h
  have h1 := hσ.mono (Same.new (o := .dK kvs) hn)
  have h2 := h1.set (i := i) (v := .ref p) (d := .dict es) (.dct upd_same (dv.mono (Same.new hn)))
  have e : σ.set i (some (V.ref p)) = σ := by
    refine List.ext_getElem? fun j => ?_
    by_cases hj : i = j
    · subst hj
      rw [List.getElem?_set_self (List.getElem?_eq_some_iff.mp hi).1, hi]
    · rw [List.getElem?_set_ne hj]
  rw [e] at h2
  exact h2
theorem upd_deleO {H : Hp} {p : Addr} {o : HO} (h : H p = some o) : upd (dele H p) p o = H := by
  funext b
  by_cases hb : b = p
  · subst hb; rw [upd_same, h]
  · rw [upd_ne hb, dele_ne hb]
theorem ODt.step {K : PySem.W.Frag} {H0 : Hp} {p : Addr} {i : Nat} {G : Gam} {es : List (PyData × PyData)} {σ : St} {H H' : Hp} (h : ODt K H0 p i G es σ H) (s : Same H H') :
    ODt K H0 p i G es σ H' ∧ ∀ v d, DV K H' v d → noK d = true → ∃ Hb kvs, H' = upd Hb p (.dK kvs) ∧ Hb p = none ∧ Same H0 Hb ∧ SD K Hb σ G ∧ σ[i]? = some (some (.ref p)) ∧ DVk K Hb kvs es ∧ DV K Hb v d := by
  obtain ⟨Hb, kvs, rfl, hn, s0, hσ, hi, dv⟩ := h
  have hp : H' p = some (.dK kvs) := s p _ upd_same
  have sb : Same Hb (dele H' p) := fun b o e => by
    have hb : b ≠ p := ne_of_none e hn
    rw [dele_ne hb]
    exact s b o (by rw [upd_ne hb]; exact e)
  refine ⟨⟨dele H' p, kvs, (upd_deleO hp).symm, dele_same, s0.trans sb, hσ.mono sb, hi, dv.mono sb⟩, fun v d q f => ⟨dele H' p, kvs, (upd_deleO hp).symm, dele_same, s0.trans sb, hσ.mono sb, hi, dv.mono sb, DV.noDict hp (fun a ha => dele_ne ha) q f⟩⟩
section
variable {X : Cx} {H0 : Hp} {p : Addr} {i j : Nat} {Pre Mid Post PreA PreB : Gam → List (PyData × PyData) → Prop} {e c : Expr} {pos pos' pos2 : Pos} {x : Str}
variable {G : Gam} {d : PyData}
end
end L2
set_option maxRecDepth 100000
set_option maxHeartbeats 1000000
namespace L2
open PySem PySem.Spec PyProof.Rows
section
variable {X : Cx} {G : Gam} {H0 : Hp} {p : Addr} {i j : Nat} {Pre Mid Post : Gam → List PyData → Prop} {a b e c tg : Expr} {es : List Expr} {pos pos' pos2 : Pos} {x : Str} {ws xs ys : List PyData} {d : PyData} {R : PyData → Prop}
def bindN : List Nat → List PyData → Gam → Gam
  | i :: is, d :: ds, G => bindN is ds (G.set i (some d))
  | _, _, G => G
theorem cd_min {i j : Int} (hc : X.calm = true) : CD X (.builtin "min") [.int i, .int j] (.int (if j < i then j else i)) := (call_min2 hc).imp fun xs H Q ⟨h, q⟩ => by
  obtain ⟨v, w, rfl, dv, dw⟩ := h.two
  exact ⟨i, j, by rw [dv.of_int, dw.of_int], q _ H (Same.refl H) (.int _)⟩
end
end L2
set_option maxRecDepth 100000
set_option maxHeartbeats 1000000
namespace L2
open PySem PySem.Spec PyProof.Rows
def TrAll {α : Type} (N : Nat) (R : α → Prop) : PySem.W.KasT α → Prop
  | .ret a => R a
  | .ask i j k => i < N ∧ j < N ∧ ∀ b, TrAll N R (k b)
theorem TrAll.imp {α : Type} {N : Nat} {R T : α → Prop} (m : ∀ a, R a → T a) : ∀ {t : PySem.W.KasT α}, TrAll N R t → TrAll N T t
  | .ret a, h => m a h
  | .ask i j k, ⟨a, b, h⟩ => ⟨a, b, fun c => TrAll.imp m (h c)⟩
theorem TrAll.bind {α β : Type} {N : Nat} {R : α → Prop} {T : β → Prop} {f : α → PySem.W.KasT β} (hf : ∀ a, R a → TrAll N T (f a)) : ∀ {t : PySem.W.KasT α}, TrAll N R t → TrAll N T (t.bind f)
  | .ret a, h => hf a h
  | .ask i j k, ⟨a, b, h⟩ => ⟨a, b, fun c => TrAll.bind hf (h c)⟩
def PmN (N : Nat) (p : Array Nat) : Prop := p.Perm (List.toArray (List.range N))
theorem PmN.lt {N : Nat} {p : Array Nat} (h : PmN N p) (hN : 0 < N) (i : Nat) : p.getD i 0 < N := by
  by_cases hi : i < p.size
  · have e : p.getD i 0 = p[i] := by simp [Array.getD, hi]
    rw [e]
    have : p[i] ∈ List.range N := by
      have := (Array.perm_iff_toList_perm.mp h).mem_iff (a := p[i])
      simpa using this.mp (by simp)
    exact List.mem_range.mp this
  · have e : p.getD i 0 = 0 := by simp [Array.getD, hi]
    rw [e]
    exact hN
section
variable {N : Nat} (hN : 0 < N)
include hN
end
section
variable {prog : Program} {w : World} {A : Around} {E : Value → Shared → Prop} {s : Shared}
end
end L2
set_option maxRecDepth 100000
set_option maxHeartbeats 1000000
namespace L2
open PySem PySem.Spec PyProof.Rows
section
variable {X : Cx} {G : Gam} {o : Expr} {pos p apos cpos : Pos} {es : List (PyData × PyData)}
end
end L2
set_option maxRecDepth 100000
set_option maxHeartbeats 1000000
namespace L2
open PySem PySem.Spec PyProof.Rows
section
variable {X : Cx} {H0 : Hp} {p : Addr} {i j : Nat} {Pre Mid Post PreA PreB : Gam → List (PyData × PyData) → Prop} {e c : Expr} {es : List Expr} {pos pos' pos2 p1 : Pos} {x : Str} {G : Gam} {d : PyData} {R : PyData → Prop} {Rs : List PyData → Prop} {ds : List PyData}
end
end L2
set_option maxRecDepth 100000
set_option maxHeartbeats 1000000
namespace L2
open PySem PySem.Spec PyProof.Rows
section
variable {X : Cx} {G : Gam} {a b e : Expr} {pos p p2 : Pos} {d : PyData} {x : Str}
end
end L2
set_option maxRecDepth 100000
set_option maxHeartbeats 1000000
namespace L2
open PySem PySem.Spec PyProof.Rows
end L2
set_option maxRecDepth 100000
set_option maxHeartbeats 1000000
namespace L2
open PySem PySem.Spec PyProof.Rows
section
variable {X : Cx} {G : Gam} {a : Expr} {pos p : Pos}
end
end L2
set_option maxRecDepth 100000
set_option maxHeartbeats 1000000
namespace L2
open PySem PySem.Spec PyProof.Rows
section
variable {P : Program} {w : World} {K : PySem.W.Frag} {mg : Str → Option Value} {base : Heap}
end
section
variable {X : Cx} {G : Gam} {e : Expr} {pos pos' pos2 : Pos} {x f : Str} {d : PyData}
def Flds (K : PySem.W.Frag) (H : Hp) (fs : List (Str × V)) (fd : List (Str × PyData)) : Prop := ∀ q ∈ fd, ∃ v, fs.lookup q.1 = some v ∧ DV K H v q.2
structure OI (K : PySem.W.Frag) (a C dx : Addr) (H0 : Hp) (n : Nat) (fd : List (Str × PyData)) (σ : St) (G : Gam) (fs : List (Str × V)) (H : Hp) : Prop where
  slot : σ[0]? = some (some (.ref a))
  obj : H a = some (.ins C dx fs)
  sd : SD K H σ G
  keep : ∀ b, b ≠ a → ∀ o, H0 b = some o → H b = some o
  flds : Flds K H fs fd
  few : fs.length ≤ n
theorem OI.step {K : PySem.W.Frag} {a C dx : Addr} {H0 : Hp} {n : Nat} {fd : List (Str × PyData)} {σ : St} {fs : List (Str × V)} {H H' : Hp} (o : OI K a C dx H0 n fd σ G fs H) (s : Same H H') : OI K a C dx H0 n fd σ G fs H' :=
  ⟨o.slot, s _ _ o.obj, o.sd.mono s, fun b hb u e => s _ _ (o.keep b hb u e), fun q hq => let ⟨v, h1, h2⟩ := o.flds q hq; ⟨v, h1, h2.mono s⟩, o.few⟩
end
end L2
set_option maxRecDepth 100000
set_option maxHeartbeats 1000000
namespace L2
open PySem PySem.Spec PyProof.Rows
section
variable {X : Cx}
end
end L2
namespace L2
open PySem PySem.Spec PyProof.Rows
section
variable {X : Cx} {G : Gam} {i : Nat} {x : Str} {es : List Expr} {pos pos' pos2 : Pos} {sts : List Stmt} {o : Out} {ds : List PyData}
end
end L2
set_option maxRecDepth 100000
set_option maxHeartbeats 1000000
namespace L2
open PySem PySem.Spec PyProof.Rows
section
variable {X : Cx} {G G2 : Gam} {H0 : Hp} {p : Addr} {i j : Nat} {Pre Mid Post : Gam → List PyData → Prop} {a b e c iter : Expr} {es : List Expr} {pos pos' pos2 pos3 : Pos} {x : Str} {ws xs ys ds : List PyData} {d : PyData} {sts A B : List Stmt}
end
end L2
set_option maxRecDepth 100000
set_option maxHeartbeats 1000000
namespace L2
open PySem PySem.Spec PyProof.Rows
section
variable {X : Cx} {G : Gam} {elt target iter : Expr} {ifs : List Expr} {scope : Scope} {pos : Pos} {N : List Str} {ix : List Nat} {ds : List PyData}
end
theorem SqT.dele {K : PySem.W.Frag} {H : Hp} {p a : Addr} {ws xs : List V} (hp : H p = some (.lst ws)) (h : SqT K H a xs) : SqT K (L2.dele H p) a xs := by
  rcases h with (h | ⟨o, h⟩) | h
  · have : a ≠ p := fun z => by subst z; rw [hp] at h; cases h
    exact .inl (.inl (by rw [dele_ne this]; exact h))
  · have : a ≠ p := fun z => by subst z; rw [hp] at h; cases h
    exact .inl (.inr ⟨o, by rw [dele_ne this]; exact h⟩)
  · exact .inr h
section
variable {X : Cx} {H0 : Hp} {p : Addr} {i : Nat} {Pre Post : Gam → List PyData → Prop} {e : Expr} {pos pos' pos2 : Pos} {x : Str}
end
end L2
set_option maxRecDepth 100000
set_option maxHeartbeats 1000000
namespace L2
open PySem PySem.Spec PyProof.Rows
section
variable {X : Cx} {G : Gam} {a : Expr} {pos p : Pos}
end
section
variable {K : PySem.W.Frag} {H : Hp} {t : Addr} {ys : List V} {ds : List PyData}
end
end L2
set_option maxRecDepth 100000
set_option maxHeartbeats 1000000
namespace L2
open PySem PySem.Spec PyProof.Rows
abbrev base2 (H : Hp) (p q : Addr) : Hp := dele (dele H p) q
theorem base2_ne {H : Hp} {p q b : Addr} (h1 : b ≠ p) (h2 : b ≠ q) : base2 H p q b = H b := by show dele (dele H p) q b = _; rw [dele_ne h2, dele_ne h1]
theorem base2_some {H : Hp} {p q b : Addr} {o : HO} (h : base2 H p q b = some o) : b ≠ p ∧ b ≠ q ∧ H b = some o := by
  have hq : b ≠ q := fun c => by subst c; rw [show base2 H p b b = none from dele_same] at h; cases h
  have hp : b ≠ p := fun c => by
    subst c
    rw [show base2 H b q b = dele H b b from dele_ne hq, dele_same] at h
    cases h
  exact ⟨hp, hq, by rw [base2_ne hp hq] at h; exact h⟩
theorem base2_sub {H : Hp} {p q : Addr} : Same (base2 H p q) H := fun b o e => (base2_some e).2.2
theorem base2_mono {H H' : Hp} {p q : Addr} (s : Same H H') : Same (base2 H p q) (base2 H' p q) := fun b o e => by
  obtain ⟨h1, h2, h3⟩ := base2_some e
  rw [base2_ne h1 h2]
  exact s b o h3
section
variable {K : PySem.W.Frag} {H : Hp} {p q : Addr} {ws us : List V}
theorem DV.base2 {v : V} {d : PyData} (hp : H p = some (.lst ws)) (hq : H q = some (.lst us)) (ne : p ≠ q) (h : DV K H v d) (n : noL d = true) : DV K (L2.base2 H p q) v d := DV.dele (ws := us) (by rw [dele_ne (Ne.symm ne)]; exact hq) (DV.dele hp h n) n
theorem DVs.base2 {v : List V} {d : List PyData} (hp : H p = some (.lst ws)) (hq : H q = some (.lst us)) (ne : p ≠ q) (h : DVs K H v d) (n : noLs d = true) : DVs K (L2.base2 H p q) v d := DVs.dele (ws := us) (by rw [dele_ne (Ne.symm ne)]; exact hq) (DVs.dele hp h n) n
theorem SqT.base2 {t : Addr} {ys : List V} (hp : H p = some (.lst ws)) (hq : H q = some (.lst us)) (ne : p ≠ q) (h : SqT K H t ys) : SqT K (L2.base2 H p q) t ys := SqT.dele (ws := us) (by rw [dele_ne (Ne.symm ne)]; exact hq) (SqT.dele hp h)
end
structure OS2 (K : PySem.W.Frag) (H0 : Hp) (p : Addr) (i : Nat) (q : Addr) (j : Nat) (G : Gam) (ds es : List PyData) (σ : St) (H : Hp) : Prop where
  ne : p ≠ q
  ex : ∃ vs us, H p = some (.lst vs) ∧ H q = some (.lst us) ∧ DVs K (base2 H p q) vs ds ∧ DVs K (base2 H p q) us es
  old : Same H0 (base2 H p q)
  sdb : SD K (base2 H p q) σ G
  hi : σ[i]? = some (some (.ref p))
  hj : σ[j]? = some (some (.ref q))
abbrev plus2 (G : Gam) (i : Nat) (ds : List PyData) (j : Nat) (es : List PyData) : Gam := (G.set i (some (.list ds))).set j (some (.list es))
theorem set_self {α : Type} {l : List α} {i : Nat} {a : α} (h : l[i]? = some a) : l.set i a = l := by
  refine List.ext_getElem? fun j => ?_
  by_cases hj : i = j
  · subst hj
    rw [List.getElem?_set_self (List.getElem?_eq_some_iff.mp h).1, h]
  · rw [List.getElem?_set_ne hj]
section
variable {K : PySem.W.Frag} {H0 H H' : Hp} {p q : Addr} {i j : Nat} {G : Gam} {ds es : List PyData} {σ : St}
theorem OS2.sd (o : OS2 K H0 p i q j G ds es σ H) : SD K H σ (plus2 G i ds j es) := by
  obtain ⟨ne, ⟨vs, us, h1, h2, d1, d2⟩, old, sd, hi, hj⟩ := o
  have a := ((sd.mono base2_sub).set (i := i) (v := .ref p) (d := .list ds) (.lst (SqL.of h1) (d1.mono base2_sub))).set (i := j) (v := .ref q) (d := .list es) (.lst (SqL.of h2) (d2.mono base2_sub))
  rw [set_self hi, set_self hj] at a
  exact a
theorem OS2.step (o : OS2 K H0 p i q j G ds es σ H) (s : Same H H') : OS2 K H0 p i q j G ds es σ H' := by
  obtain ⟨ne, ⟨vs, us, h1, h2, d1, d2⟩, old, sd, hi, hj⟩ := o
  exact ⟨ne, ⟨vs, us, s _ _ h1, s _ _ h2, d1.mono (base2_mono s), d2.mono (base2_mono s)⟩, old.trans (base2_mono s), sd.mono (base2_mono s), hi, hj⟩
theorem OS2.new {v : V} {d : PyData} (o : OS2 K H0 p i q j G ds es σ H) (h : DV K H v d) (n : noL d = true) : DV K (base2 H p q) v d := by
  obtain ⟨ne, ⟨vs, us, h1, h2, _⟩, _⟩ := o
  exact DV.base2 h1 h2 ne h n
end
abbrev P2 := Gam → List PyData → List PyData → Prop
section
variable {X : Cx} {H0 : Hp} {p q : Addr} {i j m : Nat} {Pre Mid Post PreA PreB : P2} {a e b c : Expr} {pos pos' pos2 pos3 : Pos} {x y : Str} {G : Gam} {d : PyData} {R : PyData → Prop}
structure BindB (K : PySem.W.Frag) (is : List Nat) (g : TG) (B : PyData → Gam → Gam) (d : PyData) : Prop where
  to : ∀ (v : V) (σ : St) (Hb H : Hp) (G : Gam) (Q : St → Hp → Prop), Same Hb H → SD K Hb σ G → DV K Hb v d → (∀ σ2, SD K Hb σ2 (B d G) → (∀ m, m ∉ is → σ2[m]? = σ[m]?) → Q σ2 H) → g v σ H Q
end
end L2
set_option maxRecDepth 100000
set_option maxHeartbeats 1000000
namespace L2
open PySem PySem.Spec PyProof.Rows
section
variable {X : Cx} {G : Gam} {H0 : Hp} {p : Addr} {i : Nat} {Pre Mid : Gam → List PyData → Prop} {a b e f k1 k2 v1 v2 : Expr} {pos pos' pos2 apos cpos : Pos} {x : Str} {ws ws0 ws1 ws2 xs : List PyData} {sts : List Stmt}
end
end L2
set_option maxRecDepth 100000
set_option maxHeartbeats 1000000
namespace L2
open PySem PySem.Spec PyProof.Rows
section
variable {X : Cx} {H0 : Hp} {p : Addr} {i j : Nat} {Pre Post : Gam → List PyData → Prop} {pos : Pos}
end
end L2
set_option maxRecDepth 100000
set_option maxHeartbeats 3200000
namespace L2
open PySem
def Rise (xs : Array Nat) : Prop := xs.toList.Pairwise (· < ·)
theorem Rise.lt {xs : Array Nat} (R : Rise xs) {a b : Nat} (ha : a < b) (hb : b < xs.size) : xs[a]'(Nat.lt_trans ha hb) < xs[b] := by
  have := List.pairwise_iff_getElem.mp R a b (by simpa using Nat.lt_trans ha hb) (by simpa using hb) ha
  simpa using this
def TblOk (b : Bool) (t : SetTable) : Prop := t.led = b ∧ Rise t.place
end L2
namespace L2
open PySem
structure SetG (prog : Program) (w : World) (h : Heap) (a : Addr) (S : Int → Bool) (n : Nat) (o : Obj) (es : Array (Int × Value)) (ep : Nat) (t : SetTable) : Prop where
  at_ : h.get? a = some o
  ex : o.ExactSet
  dat : o.data = .set es ep t
  els : ElemsOf (intKind prog w) es.toList
  mem : ∀ k, S k = true ↔ ∃ e ∈ es.toList, (intKind prog w).is k e.2 = true
  few : es.size < scanBound
  fit : t.fits es.size = true
  len : es.size = n
  tbl : TblOk (!w.params.followText "set-order") t
section
variable {prog : Program} {w : World} {A : Around} {E : Value → Shared → Prop} {s : Shared} {a : Addr} {S : Int → Bool} {n : Nat}
end
end L2
namespace L2
open PySem PyProof.Rows
section
variable {prog : Program} {w : World} {A : Around} {E : Value → Shared → Prop}
end
end L2
namespace L2
open PySem PyProof.Rows
section
variable {prog : Program} {w : World} {A : Around} {E : Value → Shared → Prop} {s : Shared}
end
end L2
namespace L2
open PySem PyProof.Rows
def SetIt (h : Heap) (I a : Addr) (fst : Value) (i n ep : Nat) : Prop := ∃ o, h.get? I = some o ∧ o.cls = .type "set_iterator" ∧ o.data = .fields #[fst, .int i 0, .ref a, .int n 0, .int ep 0]
section
variable {prog : Program} {w : World} {A : Around} {E : Value → Shared → Prop} {s : Shared} {I a : Addr} {i n ep : Nat} {o : Obj} {es : Array (Int × Value)} {t : SetTable} {S : Int → Bool} {fst : Value}
theorem SetIt.ty (it : SetIt s.heap I a fst i n ep) : s.TypeIs (.ref I) "set_iterator" := let ⟨o, e, c, _⟩ := it; ⟨o, e, c⟩
end
end L2
namespace L2
open PySem PyProof.Rows
section
variable {prog : Program} {w : World} {A : Around} {E : Value → Shared → Prop} {s : Shared} {I a : Addr} {i n ep : Nat} {o : Obj} {es : Array (Int × Value)} {t : SetTable} {S : Int → Bool}
theorem SetG.move {h h' : Heap} (g : SetG prog w h a S n o es ep t) (e : h'.get? a = some o) : SetG prog w h' a S n o es ep t := ⟨e, g.ex, g.dat, g.els, g.mem, g.few, g.fit, g.len, g.tbl⟩
end
end L2
namespace L2
open PySem PyProof.Rows
section
variable {prog : Program} {w : World} {A : Around} {E : Value → Shared → Prop} {s : Shared} {I a : Addr} {i n ep : Nat} {o : Obj} {es : Array (Int × Value)} {t : SetTable} {S : Int → Bool}
theorem SetIt.at {h h' : Heap} {fst : Value} (it : SetIt h I a fst i n ep) (e : ∀ o, h.get? I = some o → h'.get? I = some o) : SetIt h' I a fst i n ep := let ⟨o, g, r⟩ := it; ⟨o, e o g, r⟩
end
end L2
namespace L2
open PySem PyProof.Rows
section
variable {prog : Program} {w : World} {A : Around} {E : Value → Shared → Prop} {s : Shared} {a : Addr} {i n ep : Nat} {o : Obj} {es : Array (Int × Value)} {t : SetTable} {S : Int → Bool}
end
end L2
set_option maxRecDepth 100000
set_option maxHeartbeats 1000000
namespace L2
open PySem PySem.Spec PyProof.Rows
def insI (x : Int) : List Int → List Int
  | [] => [x]
  | a :: r => if x < a then x :: a :: r else if x = a then a :: r else a :: insI x r
def srtI (l : List Int) : List Int := l.foldr insI []
theorem insI_mem (x y : Int) : ∀ l : List Int, y ∈ insI x l ↔ y = x ∨ y ∈ l
  | [] => by simp [insI]
  | a :: r => by
    unfold insI
    split
    · simp
    · split
      · rename_i h
        subst h
        simp
      · rw [List.mem_cons, insI_mem x y r, List.mem_cons]
        constructor
        · rintro (h | h | h) <;> simp [h]
        · rintro (h | h | h) <;> simp [h]
theorem insI_rise (x : Int) : ∀ l : List Int, l.Pairwise (· < ·) → (insI x l).Pairwise (· < ·)
  | [], _ => by simp [insI]
  | a :: r, h => by
    obtain ⟨h1, h2⟩ := List.pairwise_cons.mp h
    unfold insI
    split
    · rename_i hx
      exact List.pairwise_cons.mpr ⟨fun b hb => by
        rcases List.mem_cons.mp hb with rfl | hb
        · exact hx
        · exact Int.lt_trans hx (h1 b hb), h⟩
    · split
      · exact h
      · rename_i h3 h4
        refine List.pairwise_cons.mpr ⟨fun b hb => ?_, insI_rise x r h2⟩
        rcases (insI_mem x b r).mp hb with rfl | hb
        · omega
        · exact h1 b hb
theorem srtI_mem (y : Int) : ∀ l : List Int, y ∈ srtI l ↔ y ∈ l
  | [] => by simp [srtI]
  | a :: r => by
    show y ∈ insI a (srtI r) ↔ _
    rw [insI_mem, srtI_mem y r, List.mem_cons]
theorem srtI_rise : ∀ l : List Int, (srtI l).Pairwise (· < ·)
  | [] => by simp [srtI]
  | a :: r => insI_rise a _ (srtI_rise r)
theorem rise_unique : ∀ {l m : List Int}, l.Pairwise (· < ·) → m.Pairwise (· < ·) → (∀ x, x ∈ l ↔ x ∈ m) → l = m
  | [], [], _, _, _ => rfl
  | [], b :: m, _, _, h => absurd ((h b).mpr (List.mem_cons_self ..)) (by simp)
  | a :: l, [], _, _, h => absurd ((h a).mp (List.mem_cons_self ..)) (by simp)
  | a :: l, b :: m, h1, h2, h => by
    obtain ⟨p1, p2⟩ := List.pairwise_cons.mp h1
    obtain ⟨q1, q2⟩ := List.pairwise_cons.mp h2
    have e : a = b := by
      rcases List.mem_cons.mp ((h a).mp (List.mem_cons_self ..)) with e | ha
      · exact e
      · rcases List.mem_cons.mp ((h b).mpr (List.mem_cons_self ..)) with e | hb
        · exact e.symm
        · have := q1 a ha
          have := p1 b hb
          omega
    subst e
    congr 1
    refine rise_unique p2 q2 fun x => ⟨fun hx => ?_, fun hx => ?_⟩
    · rcases List.mem_cons.mp ((h x).mp (List.mem_cons_of_mem _ hx)) with e | z
      · have := p1 x hx; omega
      · exact z
    · rcases List.mem_cons.mp ((h x).mpr (List.mem_cons_of_mem _ hx)) with e | z
      · have := q1 x hx; omega
      · exact z
theorem nodup_perm : ∀ {l m : List Int}, l.Nodup → (∀ x ∈ l, x ∈ m) → m.length ≤ l.length → l.Perm m
  | [], m, _, _, h => by
    have : m = [] := List.eq_nil_of_length_eq_zero (by simpa using h)
    rw [this]
  | a :: l, m, hn, hs, hl => by
    obtain ⟨h1, h2⟩ := List.nodup_cons.mp hn
    have ha := hs a (List.mem_cons_self ..)
    have pe := List.perm_cons_erase ha
    refine (List.Perm.cons a (nodup_perm h2 (fun x hx => ?_) ?_)).trans pe.symm
    · have := pe.mem_iff.mp (hs x (List.mem_cons_of_mem _ hx))
      rcases List.mem_cons.mp this with e | z
      · subst e; exact absurd hx h1
      · exact z
    · have := pe.length_eq
      simp only [List.length_cons] at this hl
      omega
end L2
set_option maxRecDepth 100000
set_option maxHeartbeats 1000000
namespace L2
open PySem PySem.Spec PyProof.Rows
theorem sorted_at {h : Heap} {a : Addr} {vs : List Value} {out : Array Value} (e : h.get? a = some (seqObj "list" vs.toArray 0)) : (∃ c, (sortedHeap h a vs out).get? a = some (seqObj "list" out.toList.toArray c)) ∧ ∀ b, b ≠ a → ∀ o, h.get? b = some o → (sortedHeap h a vs out).get? b = some o := by
  obtain ⟨c1, e1⟩ : ∃ c, (h.update a (Obj.mapSeq fun _ => #[])).get? a = some (seqObj "list" #[] c) := ⟨_, get?_update_seq e fun _ => #[]⟩
  have e2 := Heap.get?_push_of_some (seqObj "list" #[] 0) (Heap.get?_push_of_some (seqObj "tuple" vs.toArray 0) e1)
  refine ⟨⟨_, by rw [Array.toArray_toList]; exact get?_update_seq e2 fun _ => out⟩, fun b hb o q => ?_⟩
  unfold sortedHeap
  rw [Heap.get?_update_other _ _ (Ne.symm hb)]
  exact Heap.get?_push_of_some _ (Heap.get?_push_of_some _ (by rw [Heap.get?_update_other _ _ (Ne.symm hb)]; exact q))
theorem ints_of {K : PySem.W.Frag} {H : Hp} : ∀ {vs : List V} {us : List Value} {l : List Int}, DVs K H vs (l.map PyData.int) → Vals vs us → IntsAre us l
  | _, _, [], .nil, .nil => .nil
  | _, _, a :: l, .cons d t, .cons r rs => by
    have e := d.of_int
    subst e
    obtain ⟨tk, rfl⟩ := r
    exact .cons a tk (ints_of t rs)
theorem ints_back {K : PySem.W.Frag} {H : Hp} : ∀ {us : List Value} {l : List Int}, IntsAre us l → Vals (l.map V.int) us ∧ DVs K H (l.map V.int) (l.map PyData.int)
  | _, _, .nil => ⟨.nil, .nil⟩
  | _, _, .cons n t hr => by
    obtain ⟨h1, h2⟩ := ints_back (K := K) (H := H) hr
    exact ⟨.cons ⟨t, rfl⟩ h1, .cons (.int n) h2⟩
theorem perm_rise {l : List Int} (h : l.Pairwise (· ≤ ·)) (n : l.Nodup) : l.Pairwise (· < ·) := by
  induction l with
  | nil => exact .nil
  | cons a r ih =>
    obtain ⟨h1, h2⟩ := List.pairwise_cons.mp h
    obtain ⟨n1, n2⟩ := List.nodup_cons.mp n
    exact List.pairwise_cons.mpr ⟨fun b hb => by
      have := h1 b hb
      have : a ≠ b := fun z => n1 (z ▸ hb)
      omega, ih h2 n2⟩
section
variable {X : Cx} {G : Gam} {e : Expr} {pos p pos2 p2 : Pos} {l : List Int}
end
end L2
set_option maxRecDepth 100000
set_option maxHeartbeats 1000000
namespace L2
open PySem PySem.Spec PyProof.Rows
theorem evf_ev {X : Cx} {G : Gam} {e : Expr} {ws : List PyData} (h : EVF X G e ws) : EV X G e (.list ws) := h.imp fun σ H Q ⟨h, q⟩ => ⟨h, fun p us H' _ s' hl dv => q _ _ s' (.lst (SqL.of hl) dv)⟩
structure OSh (K : PySem.W.Frag) (H0 : Hp) (p t : Addr) (i : Nat) (G : Gam) (ds es : List PyData) (σ : St) (H : Hp) : Prop where
  ne : p ≠ t
  ex : ∃ vs u, H p = some (.lst vs) ∧ H t = some (.lst [.ref p, u]) ∧ DVs K (base2 H p t) vs ds ∧ DV K (base2 H p t) u (.list es)
  old : Same H0 (base2 H p t)
  sdb : SD K (base2 H p t) σ G
  hi : σ[i]? = some (some (.ref t))
abbrev plusN (G : Gam) (i : Nat) (ds es : List PyData) : Gam := G.set i (some (.list [.list ds, .list es]))
section
variable {K : PySem.W.Frag} {H0 H H' : Hp} {p t : Addr} {i : Nat} {G : Gam} {ds es : List PyData} {σ : St}
theorem OSh.sd (o : OSh K H0 p t i G ds es σ H) : SD K H σ (plusN G i ds es) := by
  obtain ⟨ne, ⟨vs, u, h1, h2, d1, d2⟩, old, sd, hi⟩ := o
  have a := (sd.mono base2_sub).set (i := i) (v := .ref t) (d := .list [.list ds, .list es]) (.lst (SqL.of h2) (.cons (.lst (SqL.of h1) (d1.mono base2_sub)) (.cons (d2.mono base2_sub) .nil)))
  rw [set_self hi] at a
  exact a
theorem OSh.step (o : OSh K H0 p t i G ds es σ H) (s : Same H H') : OSh K H0 p t i G ds es σ H' := by
  obtain ⟨ne, ⟨vs, u, h1, h2, d1, d2⟩, old, sd, hi⟩ := o
  exact ⟨ne, ⟨vs, u, s _ _ h1, s _ _ h2, d1.mono (base2_mono s), d2.mono (base2_mono s)⟩, old.trans (base2_mono s), sd.mono (base2_mono s), hi⟩
theorem OSh.new {v : V} {d : PyData} (o : OSh K H0 p t i G ds es σ H) (h : DV K H v d) (n : noL d = true) : DV K (base2 H p t) v d := by
  obtain ⟨ne, ⟨vs, u, h1, h2, _⟩, _⟩ := o
  exact DV.base2 h1 h2 ne h n
end
section
variable {X : Cx} {H0 : Hp} {p t : Addr} {i j m : Nat} {Pre Mid Post : P2} {a e b c : Expr} {pos pos' pos2 pos3 : Pos} {x y : Str} {G : Gam} {d : PyData}
end
end L2
set_option maxRecDepth 100000
set_option maxHeartbeats 4000000
namespace L2
open PySem PyProof.Rows
section
variable {prog : Program} {w : World} {A : Around} {E : Value → Shared → Prop} {s : Shared} {a : Addr} {its : Array Value} {n : Nat} {sl : Array (Option Value)}
end
end L2
namespace L2
open PySem PyProof.Rows
section
variable {prog : Program} {w : World} {A : Around} {K : Type} [DecidableEq K] {knd : KeyKind prog w K} {I D : Addr} {fp wr : List Addr} {n : Nat} {P : Nat → Value → Prop} {St : Nat → Shared → Prop} {R : Result → Shared → Prop}
end
end L2
namespace L2
open PySem PyProof.Rows
section
variable {prog : Program} {w : World} {A : Around} {E : Value → Shared → Prop} {s : Shared} {K : Type} [DecidableEq K] {knd : KeyKind prog w K} {l : Addr} {its : Array Value}
end
end L2
set_option maxRecDepth 100000
set_option maxHeartbeats 1000000
namespace L2
open PySem PySem.Spec PyProof.Rows
theorem sort_ints {X : Cx} {pins : List (Addr × Obj)} {σ : St} {H : Hp} {s2 : Shared} {us : List Value} {ks : List Int} {A : Around} {Q : VK} {E : Value → Shared → Prop} (I2 : Inv X pins σ H s2) (iz : IntsAre us ks) (nd : ks.Nodup) (h64 : us.length < 64)
    (q : ∀ p ws H', H p = none → Same H H' → H' p = some (.lst ws) → DVs X.K H' ws ((srtI ks).map PyData.int) → Q (.ref p) H') :
    wpAny (model X.prog X.w) A (do
      let l ← newList us
      let _ ← holding [l] (call (.builtin "list.sort") [l] [])
      ret l) (fun fin s' => ∃ r, fin = .done (.ret r) ∧ EP X pins σ Q r s') E s2 := by
  refine wpAny_bind (wpAny_newList ?_ (by rw [sizeLine_eq]; omega))
  have hoL : (s2.heap.push { cls := .type "list", data := .seq us.toArray }).get? s2.heap.objs.size = some (seqObj "list" us.toArray 0) := Heap.get?_push_size _ rfl
  refine wpAny_bind (wpAny_holding (wpAny_call_entry slot_list_sort ⟨_, hoL, rfl⟩ entry_list_sort (list_sort_tree hoL iz h64 fun out ns' a1 a2 a3 => ⟨_, rfl, ?_⟩) (args_list_sort _)))
  refine wpAny_pure ⟨_, rfl, ?_⟩
  have en : ns' = srtI ks := rise_unique (perm_rise a3 (a2.nodup_iff.mpr nd)) (srtI_rise ks) fun x => by rw [a2.mem_iff, srtI_mem]
  subst en
  obtain ⟨vb, db⟩ := ints_back (K := X.K) (H := upd H s2.heap.objs.size (.lst ((srtI ks).map V.int))) a1
  obtain ⟨⟨c1, f1⟩, f2⟩ := sorted_at (out := out) hoL
  have hB : H s2.heap.objs.size = none := I2.hok.fresh (Nat.le_refl _)
  have hl : (srtI ks).length < 64 := by rw [a2.length_eq, ← IntsAre.length iz]; exact h64
  have I3 := I2.laid (a := s2.heap.objs.size) (o := .lst ((srtI ks).map V.int)) (t' := s2.toks) (fun b u e => f2 b (Nat.ne_of_lt (Heap.lt_size e)) u (Heap.get?_push_of_some _ e)) (Nat.le_refl _) ⟨by rw [List.length_map, sizeLine_eq]; omega, out.toList, c1, vb, f1⟩
  exact ⟨.ref s2.heap.objs.size, _, I3, rfl, q _ _ _ hB (Same.new hB) upd_same db⟩
def intOf : PyData → Int
  | .int i => i
  | _ => 0
theorem keys_at {K : PySem.W.Frag} {H : Hp} : ∀ {kvs : List (Key × V)} {es : List (PyData × PyData)} {vs : List (Key × Value)}, DVk K H kvs es → (∀ q ∈ es, ∃ i, q.1 = .int i) → KV kvs vs → vs.map (·.1) = es.map fun q => .inl (intOf q.1)
  | _, _, _, .nil, _, .nil => rfl
  | _, _, _, .cons (k := k) h t, he, .cons r rs => by
    obtain ⟨i, e⟩ := he _ (List.mem_cons_self ..)
    rw [List.map_cons, List.map_cons, keys_at t (fun q hq => he q (List.mem_cons_of_mem _ hq)) rs]
    congr 1
    have e' : keyD k = .int i := e
    cases k with
    | inl z => exact r.1.symm
    | inr z => cases e'
theorem nodup_inl : ∀ {l : List Int}, (l.map fun i => (Sum.inl i : Key)).Nodup → l.Nodup
  | [], _ => List.nodup_nil
  | a :: l, h => by
    obtain ⟨h1, h2⟩ := List.nodup_cons.mp h
    exact List.nodup_cons.mpr ⟨fun z => h1 (List.mem_map_of_mem z), nodup_inl h2⟩
theorem ints_at {P : Program} {w : World} : ∀ {us : List Value} {ks : List Int}, us.length = ks.length → (∀ (j : Nat) (v : Value), us[j]? = some v → ∃ k, ks[j]? = some k ∧ (mixKind P w).is (.inl k) v = true) → IntsAre us ks
  | [], [], _, _ => .nil
  | [], _ :: _, h, _ => by cases h
  | _ :: _, [], h, _ => by cases h
  | u :: us, k :: ks, h, hk => by
    obtain ⟨k', e, hi⟩ := hk 0 u rfl
    have e : k = k' := Option.some.inj e
    subst e
    obtain ⟨t, rfl⟩ := Value.isInt_shape (k := k) (v := u) hi
    exact .cons k t (ints_at (by simpa using h) fun j v hv => hk (j + 1) v (by simpa using hv))
section
variable {X : Cx} {G : Gam} {e : Expr} {pos p : Pos} {es : List (PyData × PyData)}
theorem evf_sortedD (hcalm : X.calm = true) (ha : EV X G e (.dict es)) (hes : ∀ q ∈ es, ∃ i, q.1 = .int i) (hx : excC es = none) (h64 : es.length < 64) (hg : Gl X "sorted") (hm : X.mg "sorted" = none)
    (he : starEach [e] X.env = (false, eval e X.env) :: starEach [] X.env := by rfl) (hpl : (backTo pos (starEach [] X.env)).any (·.1) = false := by rfl) :
    EVF X G (.Call (.Name "sorted" p) [e] [] pos) ((srtI (es.map fun q => intOf q.1)).map PyData.int) := by
  intro pins s σ H Q I ⟨hσ, q⟩
  refine wpAny_Call_Name_kw (ld_blt I hg hm PyProof.Rows.boot_sorted (PyProof.Rows.callWith_builtin1 (thn (av_cons ha av_nil he pos pins s σ H _ I ⟨hσ, fun vs H' s' dv => (⟨s', dv⟩ : Same H H' ∧ DVs X.K H' vs [.dict es])⟩) fun us s1 ⟨vs, H1, I1, r1, sm, dv⟩ => ?_) he hpl))
  obtain ⟨v1, rfl, d1⟩ := dv.one
  obtain ⟨d, kvs, rfl, hd, dk⟩ := d1.of_dct hx
  obtain ⟨u1, rfl, ru⟩ := vals1 r1
  cases ru
  obtain ⟨hn, hsys, vs, kv, hD⟩ := dk_of I1.hok hd
  have ek := keys_at dk hes kv
  have hlv : vs.length = es.length := by
    have := congrArg List.length ek
    simpa using this
  obtain ⟨od, eds, ep, ho1, ho2, ho3, ho4, ho5, ho6⟩ := id hD
  refine Calls.call_function_entry kind_sorted plain_sorted entry_sorted (args_sorted1 _) ?_
  unfold Builtin.«sorted»
  refine wpAny_bind (m := checkCount "sorted" 1 1 _) (wpAny_pure ?_)
  refine wpAny_bind (PySem.W.kdu_collect (A := X.A.in1) (PySem.W.kdl_dict (knd := mixKind X.prog X.w) (kvs := vs) (ep := ep) (d := d) hsys) (I1.ok.hd hcalm) ⟨od, eds, ho1, ho2, ho3, ho4, ho5, ho6⟩ (by rw [hlv, sizeLine_eq]; omega) fun h' tk acc kp it => ?_)
  have iz : IntsAre acc.toList (es.map fun q => intOf q.1) := by
    refine ints_at (P := X.prog) (w := X.w) (by rw [Array.length_toList, it.1, List.length_map, hlv]) fun j v hv => ?_
    obtain ⟨k, x, e1, e2⟩ := it.2 j v (by simpa using hv)
    have e3 : (vs.map (·.1))[j]? = some k := by rw [List.getElem?_map, e1]; rfl
    rw [ek, List.getElem?_map] at e3
    obtain ⟨q0, f1, f2⟩ := Option.map_eq_some_iff.mp e3
    exact ⟨intOf q0.1, by rw [List.getElem?_map, f1]; rfl, by rw [f2]; exact e2⟩
  have nd : (es.map fun q => intOf q.1).Nodup := by
    have := ho6
    rw [ek] at this
    have h2 : (es.map fun q => (Sum.inl (intOf q.1) : Key)) = (es.map fun q => intOf q.1).map Sum.inl := by rw [List.map_map]; rfl
    rw [h2] at this
    exact nodup_inl this
  exact sort_ints (I1.kept (t' := tk) kp) iz nd (by rw [IntsAre.length iz, List.length_map]; exact h64) fun p ws H' hp s' hl dv' => q p ws H' (sm.free hp) (sm.trans s') hl dv'
end
end L2
set_option maxRecDepth 100000
set_option maxHeartbeats 1000000
namespace L2
open PySem PySem.Spec PyProof.Rows
def dI (m : List (Int × Int)) : List (PyData × PyData) := m.map fun q => (.int q.1, .int q.2)
def getI (m : List (Int × Int)) (a : Int) : Int := (m.lookup a).getD 0
def hasI (m : List (Int × Int)) (a : Int) : Bool := m.any fun q => decide (q.1 = a)
def putI (m : List (Int × Int)) (a n : Int) : List (Int × Int) := if hasI m a = true then m.map (fun q => if q.1 = a then (q.1, n) else q) else m ++ [(a, n)]
theorem dI_exc (m : List (Int × Int)) : excC (dI m) = none := by
  cases m with
  | nil => rfl
  | cons a r => cases r with
    | nil => rfl
    | cons b r => rfl
theorem DVk.valI {K : PySem.W.Frag} {H : Hp} (a : Int) : ∀ {kvs : List (Key × V)} {m : List (Int × Int)}, DVk K H kvs (dI m) → valV kvs (.inl a) = (m.lookup a).map V.int
  | kvs, [], h => by
    cases h
    rfl
  | kvs, (k, n) :: m, h => by
    unfold dI at h
    rw [List.map_cons] at h
    generalize hk : (PyData.int (k, n).1, PyData.int (k, n).2) = kk at h
    cases h with
    | cons hd t =>
      rename_i k' x d xs
      injection hk with hk hn
      subst hn
      have hx := hd.of_int
      subst hx
      cases k' with
      | inr z => cases hk
      | inl z =>
        injection hk with hk
        have hk : k = z := hk
        subst hk
        have ih := DVk.valI a (m := m) t
        unfold valV at ih ⊢
        rw [List.find?_cons, List.lookup_cons]
        by_cases e : k = a
        · subst e
          rw [decide_eq_true rfl, beq_self_eq_true]
          rfl
        · rw [decide_eq_false (fun z => e (Sum.inl.inj z)), beq_eq_false_iff_ne.mpr (Ne.symm e)]
          exact ih
section
variable {X : Cx} {pins : List (Addr × Obj)} {σ : St} {H : Hp} {s : Shared} {a : Addr} {xs : List V}
end
theorem DVk.intsK {K : PySem.W.Frag} {H : Hp} : ∀ (m : List (Int × Int)), DVk K H (m.map fun q => ((.inl q.1 : Key), V.int q.2)) (dI m)
  | [] => .nil
  | (k, n) :: m => .cons (k := .inl k) (.int n) (DVk.intsK m)
section
variable {X : Cx} {G : Gam} {e : Expr} {pos p : Pos} {m : List (Int × Int)} {d : PyData}
end
end L2
set_option maxRecDepth 100000
set_option maxHeartbeats 1000000
namespace L2
open PySem PySem.Spec PyProof.Rows
mutual
def kT : PyData → Bool
  | .int _ => true
  | .str x => PyData.canLay0 (.str x)
  | .tuple xs => kTs xs
  | _ => false
def kTs : List PyData → Bool
  | [] => true
  | x :: r => kT x && kTs r
end
mutual
def hashT (w : World) : PyData → Int
  | .int i => hashInt i
  | .str x => hashStr w x
  | .tuple xs => reduceHash (Builtin.Tuple.tupleHashOf (hashTs w xs))
  | _ => 0
def hashTs (w : World) : List PyData → List Int
  | [] => []
  | x :: r => hashT w x :: hashTs w r
end
mutual
def drawT : PyData → Nat
  | .tuple xs => drawTs xs + 1
  | _ => 1
def drawTs : List PyData → Nat
  | [] => 0
  | x :: r => drawT x + drawTs r
end
theorem hashTs_app (w : World) : ∀ (xs ys : List PyData), hashTs w (xs ++ ys) = hashTs w xs ++ hashTs w ys
  | [], _ => by simp [hashTs]
  | x :: xs, ys => by simp [hashTs, hashTs_app w xs ys]
theorem drawTs_app : ∀ (xs ys : List PyData), drawTs (xs ++ ys) = drawTs xs + drawTs ys
  | [], _ => by simp [drawTs]
  | x :: xs, ys => by simp [drawTs, drawTs_app xs ys, Nat.add_assoc]
mutual
theorem kT_lay : ∀ {d : PyData}, kT d = true → d.canLay0 = true
  | .int _, _ => rfl
  | .str _, h => by unfold kT at h; exact h
  | .tuple xs, h => by unfold PyData.canLay0; exact kTs_lay (by unfold kT at h; exact h)
  | .none, h => by simp [kT] at h
  | .bool _, h => by simp [kT] at h
  | .list _, h => by simp [kT] at h
  | .dict _, h => by simp [kT] at h
theorem kTs_lay : ∀ {ds : List PyData}, kTs ds = true → PyData.canLayAll0 ds = true
  | [], _ => rfl
  | x :: r, h => by
    unfold kTs at h
    rw [Bool.and_eq_true] at h
    unfold PyData.canLayAll0
    rw [kT_lay h.1, kTs_lay h.2]
    rfl
end
mutual
theorem eqv_kT : ∀ (a b : PyData), kT a = true → kT b = true → (PyData.eqv a b = true ↔ a = b)
  | .int i, .int j, _, _ => by simp [PyData.eqv]
  | .str i, .str j, _, _ => by simp [PyData.eqv]
  | .int i, .str j, _, _ => by simp [PyData.eqv]
  | .str i, .int j, _, _ => by simp [PyData.eqv]
  | .int i, .tuple j, _, _ => by simp [PyData.eqv]
  | .str i, .tuple j, _, _ => by simp [PyData.eqv]
  | .tuple i, .int j, _, _ => by simp [PyData.eqv]
  | .tuple i, .str j, _, _ => by simp [PyData.eqv]
  | .tuple xs, .tuple ys, ha, hb => by
    have := eqv_kTs xs ys (by unfold kT at ha; exact ha) (by unfold kT at hb; exact hb)
    simp only [PyData.eqv, PyData.tuple.injEq]
    exact this
  | .none, _, h, _ => by simp [kT] at h
  | .bool _, _, h, _ => by simp [kT] at h
  | .list _, _, h, _ => by simp [kT] at h
  | .dict _, _, h, _ => by simp [kT] at h
  | _, .none, _, h => by simp [kT] at h
  | _, .bool _, _, h => by simp [kT] at h
  | _, .list _, _, h => by simp [kT] at h
  | _, .dict _, _, h => by simp [kT] at h
theorem eqv_kTs : ∀ (a b : List PyData), kTs a = true → kTs b = true → (PyData.eqvAll a b = true ↔ a = b)
  | [], [], _, _ => by simp [PyData.eqvAll]
  | [], _ :: _, _, _ => by simp [PyData.eqvAll]
  | _ :: _, [], _, _ => by simp [PyData.eqvAll]
  | x :: xs, y :: ys, ha, hb => by
    unfold kTs at ha hb
    rw [Bool.and_eq_true] at ha hb
    have h1 := eqv_kT x y ha.1 hb.1
    have h2 := eqv_kTs xs ys ha.2 hb.2
    simp only [PyData.eqvAll, Bool.and_eq_true, List.cons.injEq]
    rw [h1, h2]
end
theorem depth_of {xs : List PyData} : ∀ x ∈ xs, x.depth ≤ PyData.depthAll xs := by
  induction xs with
  | nil => intro x hx; cases hx
  | cons y r ih =>
    intro x hx
    unfold PyData.depthAll
    rcases List.mem_cons.mp hx with rfl | hx
    · exact Nat.le_max_left _ _
    · exact Nat.le_trans (ih x hx) (Nat.le_max_right _ _)
section
variable {prog : Program} {w : World}
def HashOk (prog : Program) (w : World) (d : PyData) : Prop := ∀ (A : Around) (E : Value → Shared → Prop) (s : Shared) (v : Value) (as : List Addr) (Q : Int → Shared → Prop), A.units + d.depth < cLine → Reads s.heap v d as → Q (hashT w d) { s with toks := s.toks + drawT d } → wpAny (model prog w) A (pyHash v) Q E s
theorem hash_tup {xs : List PyData} (hP : ∀ x ∈ xs, HashOk prog w x) : HashOk prog w (.tuple xs) := by
  intro A E s v as Q hu hr h
  cases hr with
  | @tuple a o items n _ _ ho hc hd hi =>
  have hT : s.TypeIs (.ref a) "tuple" := ⟨o, ho, hc⟩
  have hd1 : PyData.depth (.tuple xs) = PyData.depthAll xs + 1 := by first | rfl | simp [PyData.depth, Nat.add_comm]
  have hu0 : A.units < cLine := by omega
  unfold pyHash
  first | unfold pyHashByItsType | skip
  first | refine wpAny_bind (wpAny_cRoomFor_or (.inr hu0) ?_) | skip
  refine wpAny_bind (wpAny_specialOf hT F.slot_tuple_hash.lookup ?_)
  show wpAny _ _ (if (some (Value.builtin "tuple.__hash__") == some Value.none) = true then _ else _) Q E s
  rw [if_neg (by rw [beq_builtin_none]; exact Bool.false_ne_true)]
  refine wpAny_bind (wpAny_specialOf hT F.slot_tuple_hash.lookup ?_)
  show wpAny _ _ (callSpecialIfBoundUnlessNone? (.ref a) "__hash__" _ >>= _) Q E s
  refine wpAny_bind (wpAny_callSpecialIfBoundUnlessNone?_slot hT F.slot_tuple_hash (wpAny_call_entry F.slot_tuple_hash hT F.entry_tuple_hash ?_ (F.args_tuple_hash_1 _)))
  show wpAny _ _ (Builtin.Tuple.tupleItemsOf (.ref a) >>= _) _ _ s
  refine wpAny_bind (wpAny_tupleItemsOf ho hd ?_)
  refine wpAny_bind ?_
  rw [← Array.forIn_toList]
  refine wpAny_forIn_list _
    (fun rest (b : Array Int) s' => ∃ done left bs, xs = done ++ left ∧ ReadsAll s.heap rest left bs ∧ b.toList = hashTs w done ∧ s' = { s with toks := s.toks + drawTs done })
    _ ?_ ?_ _ _ ⟨[], xs, _, rfl, hi, rfl, rfl⟩
  · rintro x rest b s' ⟨done, left, bs, rfl, hl, hb, rfl⟩
    cases hl with
    | @cons _ _ k ks' as1 bs1 h1 hl' =>
      have hdk : k.depth ≤ PyData.depthAll (done ++ k :: ks') := depth_of k (by simp)
      refine wpAny_bind (hP k (by simp) _ _ _ _ as1 _ ?_ h1 ?_)
      · first
          | (show A.units + 1 + k.depth < cLine; omega)
          | (simp only [Around.units_in1]; omega)
          | omega
      first
        | exact wpAny_pure ⟨done ++ [k], ks', bs1, by simp, hl', by simp [hb, hashTs_app, hashTs], by simp [drawTs_app, drawTs, Nat.add_assoc]⟩
        | exact wpAny_bind (wpAny_pure (wpAny_pure ⟨done ++ [k], ks', bs1, by simp, hl', by simp [hb, hashTs_app, hashTs], by simp [drawTs_app, drawTs, Nat.add_assoc]⟩))
  · rintro b s' ⟨done, left, bs, rfl, hl, hb, rfl⟩
    cases hl
    rw [List.append_nil] at h
    show wpAny _ _ (retInt (Builtin.Tuple.tupleHashOf b.toList)) _ _ _
    rw [hb]
    refine wpAny_ret_mkInt ?_
    show wpAny _ _ (if (decide (-(2 : Int) ^ 63 ≤ Builtin.Tuple.tupleHashOf (hashTs w done)) && decide (Builtin.Tuple.tupleHashOf (hashTs w done) < 2 ^ 63)) = true then _ else _) Q E _
    unfold hashT reduceHash drawT at h
    by_cases hr : (decide (-(2 : Int) ^ 63 ≤ Builtin.Tuple.tupleHashOf (hashTs w done)) && decide (Builtin.Tuple.tupleHashOf (hashTs w done) < 2 ^ 63)) = true
    · rw [if_pos hr]
      rw [if_pos hr] at h
      exact wpAny_pure (by simpa [Nat.add_assoc] using h)
    · rw [if_neg hr]
      rw [if_neg hr] at h
      exact wpAny_bind (wpAny_rule (wpAny_pure (by simpa [Nat.add_assoc] using h)))
mutual
theorem hash_ok : ∀ (d : PyData), kT d = true → HashOk prog w d
  | .int i, _ => fun A E s v as Q _ hr h => by
    cases hr
    exact wpAny_pyHash_int h
  | .str x, _ => fun A E s v as Q _ hr h => by
    cases hr
    exact wpAny_pyHash_str h
  | .tuple xs, h => hash_tup (hash_oks xs (by unfold kT at h; exact h))
  | .none, h => by simp [kT] at h
  | .bool _, h => by simp [kT] at h
  | .list _, h => by simp [kT] at h
  | .dict _, h => by simp [kT] at h
theorem hash_oks : ∀ (xs : List PyData), kTs xs = true → ∀ x ∈ xs, HashOk prog w x
  | [], _, x, hx => by cases hx
  | y :: r, h, x, hx => by
    have h' : kT y = true ∧ kTs r = true := by unfold kTs at h; rwa [Bool.and_eq_true] at h
    have h1 := hash_ok y h'.1
    have h2 := hash_oks r h'.2
    rcases List.mem_cons.mp hx with e | hx
    · rw [e]; exact h1
    · exact h2 x hx
end
def QuietOk (prog : Program) (w : World) (d : PyData) : Prop := ∀ (n : Nat) (A : Around) (E : Value → Shared → Prop) (s : Shared) (v : Value) (as : List Addr) (Q : Bool → Shared → Prop), d.depth ≤ n → Reads s.heap v d as → Q true s → wpAny (model prog w) A (eqIsQuiet n v) Q E s
theorem quiet_tup {xs : List PyData} (hP : ∀ x ∈ xs, QuietOk prog w x) : QuietOk prog w (.tuple xs) := by
  intro n A E s v as Q hn hr h
  cases hr with
  | @tuple a o items n0 _ _ ho hc hd hi =>
  have hT : s.TypeIs (.ref a) "tuple" := ⟨o, ho, hc⟩
  have hd1 : PyData.depth (.tuple xs) = PyData.depthAll xs + 1 := by first | rfl | simp [PyData.depth, Nat.add_comm]
  cases n with
  | zero => omega
  | succ n =>
  unfold eqIsQuiet
  refine wpAny_bind (wpAny_specialOf hT F.slot_tuple_eq.lookup ?_)
  show wpAny _ _ (isInstance (.ref a) (.type "tuple") >>= _) _ _ s
  refine wpAny_bind (wpAny_isInstance hT isSubtype_tuple_tuple ?_)
  simp only [Bool.not_true, Bool.false_eq_true, if_false]
  refine wpAny_bind (wpAny_seqItems ho hd ?_)
  refine wpAny_bind ?_
  show wpAny _ _ (forIn items _ _) _ _ s
  rw [← Array.forIn_toList]
  refine wpAny_forIn_list _ (fun rest r s' => r.1 = none ∧ s' = s ∧ ∃ left bs, ReadsAll s.heap rest left bs ∧ ∀ x ∈ left, x ∈ xs) _ ?_ ?_ _ _ ⟨rfl, rfl, xs, _, hi, fun x hx => hx⟩
  · rintro v rest r s' ⟨hr, rfl, left, bs, hl, hm⟩
    cases hl with
    | @cons _ _ k ks' as1 bs1 h1 hl' =>
      have hk : k ∈ xs := hm k List.mem_cons_self
      have hdk : k.depth ≤ PyData.depthAll xs := depth_of k hk
      refine wpAny_bind (hP k hk n _ _ _ _ as1 _ (by omega) h1 ?_)
      simp only [Bool.not_true, Bool.false_eq_true, if_false]
      exact wpAny_pure ⟨rfl, rfl, ks', bs1, hl', fun x hx => hm x (List.mem_cons_of_mem _ hx)⟩
  · rintro ⟨r1, r2⟩ s' ⟨hr, rfl, _⟩
    simp only at hr
    subst hr
    exact wpAny_pure h
mutual
theorem quiet_ok : ∀ (d : PyData), kT d = true → QuietOk prog w d
  | .int i, _ => fun n A E s v as Q _ hr h => by
    cases hr
    rw [eqIsQuiet_byValue _ rfl]
    exact wpAny_pure h
  | .str x, _ => fun n A E s v as Q _ hr h => by
    cases hr
    rw [eqIsQuiet_byValue _ rfl]
    exact wpAny_pure h
  | .tuple xs, h => quiet_tup (quiet_oks xs (by unfold kT at h; exact h))
  | .none, h => by simp [kT] at h
  | .bool _, h => by simp [kT] at h
  | .list _, h => by simp [kT] at h
  | .dict _, h => by simp [kT] at h
theorem quiet_oks : ∀ (xs : List PyData), kTs xs = true → ∀ x ∈ xs, QuietOk prog w x
  | [], _, x, hx => by cases hx
  | y :: r, h, x, hx => by
    have h' : kT y = true ∧ kTs r = true := by unfold kTs at h; rwa [Bool.and_eq_true] at h
    have h1 := quiet_ok y h'.1
    have h2 := quiet_oks r h'.2
    rcases List.mem_cons.mp hx with e | hx
    · rw [e]; exact h1
    · exact h2 x hx
end
mutual
theorem reads_but {h h' : Heap} {d : Addr} {o : Obj} {es ep} (ho : h.get? d = some o) (hd : o.data = .dict es ep) (hs : Heap.SameBut d h h') : ∀ (k : PyData) (v : Value) (as : List Addr), kT k = true → Reads h v k as → Reads h' v k as
  | .int i, v, as, _, r => by cases r; exact .int i _
  | .str i, v, as, _, r => by cases r; exact .str i _
  | .tuple xs, v, as, hk, r => by
    cases r with
    | @tuple a ob items n _ _ h1 h2 h3 h4 =>
      have hne : a ≠ d := fun e => by
        subst e
        rw [ho] at h1
        cases h1
        rw [hd] at h3
        cases h3
      exact .tuple ((hs.2 a hne).trans h1) h2 h3 (readsAll_but ho hd hs xs _ _ (by unfold kT at hk; exact hk) h4)
  | .none, _, _, h, _ => by simp [kT] at h
  | .bool _, _, _, h, _ => by simp [kT] at h
  | .list _, _, _, h, _ => by simp [kT] at h
  | .dict _, _, _, h, _ => by simp [kT] at h
theorem readsAll_but {h h' : Heap} {d : Addr} {o : Obj} {es ep} (ho : h.get? d = some o) (hd : o.data = .dict es ep) (hs : Heap.SameBut d h h') : ∀ (k : List PyData) (v : List Value) (as : List Addr), kTs k = true → ReadsAll h v k as → ReadsAll h' v k as
  | [], v, as, _, r => by cases r; exact .nil
  | x :: xs, v, as, hk, r => by
    have hk' : kT x = true ∧ kTs xs = true := by unfold kTs at hk; rwa [Bool.and_eq_true] at hk
    cases r with
    | cons h1 h2 => exact .cons (reads_but ho hd hs x _ _ hk'.1 h1) (readsAll_but ho hd hs xs _ _ hk'.2 h2)
end
noncomputable instance decD : DecidableEq PyData := fun a b => Classical.propDecidable (a = b)
def keyT (d : PyData) : Prop := kT d = true ∧ d.depth ≤ 8
noncomputable def treeKind (prog : Program) (w : World) : HeapKind prog w PyData where
  is := fun h d a => keyT d ∧ ∃ as, Reads h (.ref a) d as
  hash := hashT w
  draws := drawT
  room := fun A => A.units + 16 < cLine
  inj := fun {h a x y} ⟨hx, as, rx⟩ ⟨_, bs, ry⟩ => PySem.SeqAt.Reads.unique x y (.ref a) as bs (kT_lay hx.1) rx ry
  keeps := fun {h h' k a d o es ep} ⟨hk, as, r⟩ ho hd hs => ⟨hk, as, reads_but ho hd hs k _ as hk.1 r⟩
  pyHash := fun {A E s k a Q} hu ⟨hk, as, r⟩ h => hash_ok k hk.1 A E s _ as Q (by have := hk.2; have hu : A.units + 16 < cLine := hu; omega) r h
  eqBool := fun {A E s x y a b Q} hu ⟨hx, as, rx⟩ ⟨hy, bs, ry⟩ h => PySem.SeqAt.eqBoolOverData prog w A E s _ _ x y as bs Q rx ry (kT_lay hx.1) (kT_lay hy.1) (by have := hx.2; have hu : A.units + 16 < cLine := hu; omega) (by
    have e : PyData.eqv x y = decide (x = y) := by
      rw [Bool.eq_iff_iff, eqv_kT x y hx.1 hy.1, decide_eq_true_iff]
    rw [e]
    exact h)
  quiet := fun {A E s k a Q} ⟨hk, as, r⟩ h => quiet_ok k hk.1 8 A E s _ as Q hk.2 r h
end
end L2
set_option maxRecDepth 100000
set_option maxHeartbeats 1000000
namespace L2
open PySem PySem.Spec PyProof.Rows
def lef (L : List Addr) (H : Hp) : Hp := fun b => if b ∈ L then none else H b
theorem lef_in {L : List Addr} {H : Hp} {b : Addr} (h : b ∈ L) : lef L H b = none := by unfold lef; rw [if_pos h]
theorem lef_ne {L : List Addr} {H : Hp} {b : Addr} (h : b ∉ L) : lef L H b = H b := by unfold lef; rw [if_neg h]
theorem lef_same {L : List Addr} {H : Hp} : Same (lef L H) H := fun b o e => by
  by_cases h : b ∈ L
  · rw [lef_in h] at e; cases e
  · rw [lef_ne h] at e; exact e
theorem Same.lef {L : List Addr} {H H' : Hp} (s : Same H H') : Same (L2.lef L H) (L2.lef L H') := fun b o e => by
  by_cases h : b ∈ L
  · rw [lef_in h] at e; cases e
  · rw [lef_ne h] at e ⊢; exact s b o e
theorem lef_sub {L M : List Addr} {H : Hp} (h : ∀ b ∈ L, b ∈ M) : Same (lef M H) (lef L H) := fun b o e => by
  by_cases hb : b ∈ M
  · rw [lef_in hb] at e; cases e
  · rw [lef_ne hb] at e
    rw [lef_ne fun z => hb (h b z)]
    exact e
mutual
theorem DV.lef {K : PySem.W.Frag} {H : Hp} {L : List Addr} (hp : ∀ b ∈ L, ∀ xs, ¬ Rd H b (.tup xs)) : ∀ {v : V} {d : PyData}, DV K H v d → noL d = true → DV K (L2.lef L H) v d
  | _, _, .non, _ => .non
  | _, _, .bl b, _ => .bl b
  | _, _, .int i, _ => .int i
  | _, _, .str x, _ => .str x
  | _, _, .tup (a := a) h t, f => by
    refine .tup ?_ (DVs.lef hp t (by unfold noL at f; exact f))
    rcases h with h | h
    · have hn : a ∉ L := fun z => hp a z _ h
      refine .inl ?_
      rcases h with h | ⟨o, h⟩
      · exact .inl (by rw [lef_ne hn]; exact h)
      · exact .inr ⟨o, by rw [lef_ne hn]; exact h⟩
    · exact .inr h
  | _, _, .lst h t, f => by unfold noL at f; cases f
  | _, _, .dct h t, f => by unfold noL at f; cases f
  | _, _, .exc h, f => by unfold noL at f; cases f
  | _, _, .exr h h', f => by unfold noL at f; cases f
  | _, _, .obj h n t, f => by unfold noL at f; cases f
  | _, _, .dtt h, f => by unfold noL at f; cases f
theorem DVs.lef {K : PySem.W.Frag} {H : Hp} {L : List Addr} (hp : ∀ b ∈ L, ∀ xs, ¬ Rd H b (.tup xs)) : ∀ {vs : List V} {ds : List PyData}, DVs K H vs ds → noLs ds = true → DVs K (L2.lef L H) vs ds
  | _, _, .nil, _ => .nil
  | _, _, .cons h t, f => by
    unfold noLs at f
    rw [Bool.and_eq_true] at f
    exact .cons (DV.lef hp h f.1) (DVs.lef hp t f.2)
end
def NumAt (P : Program) (w : World) (da : Addr) (xs : List (PyData × Addr × Value)) (h : Heap) : Prop :=
  (da == sysModules) = false ∧ xs.length ≤ sizeLine ∧ ∃ o es ep, h.get? da = some o ∧ o.ExactDict ∧ o.data = .dict es ep ∧ es.toList = xs.map (entryOfKey (treeKind P w)) ∧ (xs.map (·.1)).Nodup
section
variable {X : Cx} {pins : List (Addr × Obj)} {σ : St} {H : Hp} {s : Shared} {da b : Addr} {d : PyData} {xs : List (PyData × Addr × Value)} {A : Around} {E : Value → Shared → Prop}
end
structure Reg where
  C : Addr
  a : Addr
  dx : Addr
  la : Addr
  da : Addr
abbrev Reg.L (R : Reg) : List Addr := [R.a, R.la, R.da]
def EntsOk (K : PySem.W.Frag) (H : Hp) (T : List PyData) (xs : List (PyData × Addr × Value)) : Prop :=
  xs.map (·.1) = T ∧ (∀ x ∈ xs, DV K H (.ref x.2.1) x.1) ∧ ∀ (j : Nat) x, xs[j]? = some x → ∃ t, x.2.2 = .int (j : Int) t
structure TabS (P : Program) (w : World) (K : PySem.W.Frag) (R : Reg) (T : List PyData) (Hb H : Hp) (fs : List (Str × V)) (vs : List V) (xs : List (PyData × Addr × Value)) : Prop where
  obj : H R.a = some (.ins R.C R.dx fs)
  f1 : fs.lookup ("atoms" : Str) = some (.ref R.la)
  f2 : fs.lookup ("numbers" : Str) = some (.ref R.da)
  fn : ∀ m : Str, m ≠ "atoms" → m ≠ "numbers" → fs.lookup m = none
  lst : H R.la = some (.lst vs)
  num : H R.da = some (.ext (NumAt P w R.da xs))
  atoms : DVs K Hb vs T
  ents : EntsOk K Hb T xs
  keys : ∀ d ∈ T, keyT d
  few : T.length < 1000
theorem TabS.mono {P : Program} {w : World} {K : PySem.W.Frag} {R : Reg} {T : List PyData} {Hb Hb' H H' : Hp} {fs : List (Str × V)} {vs : List V} {xs : List (PyData × Addr × Value)} (t : TabS P w K R T Hb H fs vs xs) (s : Same Hb Hb') (s2 : Same H H') : TabS P w K R T Hb' H' fs vs xs :=
  ⟨s2 _ _ t.obj, t.f1, t.f2, t.fn, s2 _ _ t.lst, s2 _ _ t.num, t.atoms.mono s, ⟨t.ents.1, fun x hx => (t.ents.2.1 x hx).mono s, t.ents.2.2⟩, t.keys, t.few⟩
theorem TabS.notup {P : Program} {w : World} {K : PySem.W.Frag} {R : Reg} {T : List PyData} {Hb H : Hp} {fs : List (Str × V)} {vs : List V} {xs : List (PyData × Addr × Value)} (t : TabS P w K R T Hb H fs vs xs) : ∀ b ∈ R.L, ∀ ys, ¬ Rd H b (.tup ys) := fun b hb ys r => by
  have key : ∀ o, H b = some o → (∀ ys, o ≠ .tup ys) → (∀ q u, o ≠ .frz q u) → False := fun o e h1 h2 => by
    rcases r with r | ⟨q, r⟩
    · rw [e] at r; exact h1 _ (Option.some.inj r)
    · rw [e] at r; exact h2 _ _ (Option.some.inj r)
  simp only [Reg.L, List.mem_cons, List.not_mem_nil, or_false] at hb
  rcases hb with e | e | e
  · exact key _ (by rw [e]; exact t.obj) (fun _ z => by cases z) (fun _ _ z => by cases z)
  · exact key _ (by rw [e]; exact t.lst) (fun _ z => by cases z) (fun _ _ z => by cases z)
  · exact key _ (by rw [e]; exact t.num) (fun _ z => by cases z) (fun _ _ z => by cases z)
def Tb (P : Program) (w : World) (K : PySem.W.Frag) (R : Reg) (T : List PyData) (H : Hp) : Prop := ∃ fs vs xs, TabS P w K R T (lef R.L H) H fs vs xs
theorem Tb.step {P : Program} {w : World} {K : PySem.W.Frag} {R : Reg} {T : List PyData} {H H' : Hp} (t : Tb P w K R T H) (s : Same H H') : Tb P w K R T H' := let ⟨fs, vs, xs, h⟩ := t; ⟨fs, vs, xs, h.mono s.lef s⟩
theorem Tb.data {P : Program} {w : World} {K : PySem.W.Frag} {R : Reg} {T : List PyData} {H : Hp} {v : V} {d : PyData} (t : Tb P w K R T H) (h : DV K H v d) (hn : noL d = true) : DV K (lef R.L H) v d := let ⟨_, _, _, q⟩ := t; DV.lef q.notup h hn
def RS (P : Program) (w : World) (K : PySem.W.Frag) (R : Reg) (G : Gam) (T : List PyData) (σ : St) (H : Hp) : Prop := σ[0]? = some (some (.ref R.a)) ∧ Tb P w K R T H ∧ SD K (lef R.L H) σ G
section
variable {P : Program} {w : World} {K : PySem.W.Frag} {R : Reg} {G : Gam} {T : List PyData} {σ : St} {H H' : Hp}
theorem RS.sd (r : RS P w K R G T σ H) : SD K H σ G := r.2.2.mono lef_same
theorem RS.step (r : RS P w K R G T σ H) (s : Same H H') : RS P w K R G T σ H' := ⟨r.1, r.2.1.step s, r.2.2.mono s.lef⟩
end
def tTR (P : Program) (w : World) (K : PySem.W.Frag) (R : Reg) (G : Gam) (T : List PyData) (d : PyData) (T' : List PyData) : TS := fun D σ H => RS P w K R G T σ H ∧ ∀ v H', Tb P w K R T' H' → Same (lef R.L H) (lef R.L H') → DV K (lef R.L H') v d → D.rt v H'
section
variable {X : Cx} {R : Reg} {G G1 G2 : Gam} {T T1 T2 : List PyData} {e c : Expr} {d : PyData} {k : Bool} {pos pos' pos2 : Pos} {x f : Str}
end
end L2
set_option maxRecDepth 100000
set_option maxHeartbeats 1000000
namespace L2
open PySem PySem.Spec PyProof.Rows
structure ClsT (K : PySem.W.Frag) (C : Addr) : Prop where
  cl : Cls K C
  n1 : NoAttr K C "atoms"
  n2 : NoAttr K C "numbers"
section
variable {X : Cx} {R : Reg} {G G1 G2 : Gam} {T T1 T2 : List PyData} {e c a : Expr} {es : List Expr} {d : PyData} {ds : List PyData} {k : Bool} {pos pos' pos2 pos3 : Pos} {x f m : Str}
theorem RS.next {P : Program} {w : World} {K : PySem.W.Frag} {σ : St} {H H' : Hp} (r : RS P w K R G T σ H) (t : Tb P w K R T1 H') (s : Same (lef R.L H) (lef R.L H')) : RS P w K R G T1 σ H' := ⟨r.1, t, r.2.2.mono s⟩
theorem tb_free {P : Program} {w : World} {K : PySem.W.Frag} {H : Hp} {p : Addr} (t : Tb P w K R T H) (hp : H p = none) : p ∉ R.L := fun z => by
  obtain ⟨_, _, _, t⟩ := t
  simp only [Reg.L, List.mem_cons, List.not_mem_nil, or_false] at z
  rcases z with z | z | z
  · have := t.obj; rw [← z, hp] at this; cases this
  · have := t.lst; rw [← z, hp] at this; cases this
  · have := t.num; rw [← z, hp] at this; cases this
end
end L2
set_option maxRecDepth 100000
set_option maxHeartbeats 1000000
namespace L2
open PySem PySem.Spec PyProof.Rows
theorem lef_upd {L : List Addr} {H : Hp} {p : Addr} {o : HO} (h : p ∈ L) : lef L (upd H p o) = lef L H := by
  funext b
  by_cases hb : b ∈ L
  · rw [lef_in hb, lef_in hb]
  · rw [lef_ne hb, lef_ne hb, upd_ne fun z => hb (by rw [z]; exact h)]
section
variable {X : Cx} {R : Reg} {G G1 G2 : Gam} {T T1 T2 : List PyData} {e c a : Expr} {es : List Expr} {d : PyData} {ds : List PyData} {pos pos' pos2 pos3 pos4 pos5 p1 p2 p3 p4 p5 p6 p7 : Pos} {x y f m : Str} {j : Nat}
def Mid (P : Program) (w : World) (K : PySem.W.Frag) (R : Reg) (G : Gam) (T : List PyData) (d : PyData) (σ : St) (H0 H : Hp) : Prop :=
  σ[0]? = some (some (.ref R.a)) ∧ SD K (lef R.L H0) σ G ∧ ∃ fs vs xs b t, TabS P w K R T (lef R.L H0) H0 fs vs xs ∧ DV K (lef R.L H0) (.ref b) d ∧ H = upd H0 R.da (.ext (NumAt P w R.da (xs ++ [(d, b, .int T.length t)])))
end
def spT (P : Program) (w : World) (K : PySem.W.Frag) (C : Addr) (F : List PyData → List PyData → PyData → List PyData → Prop) : Sp := fun vs H Q _ => ∃ (R : Reg) (T ds : List PyData) (d : PyData) (T' : List PyData) (vr : List V), R.C = C ∧ vs = .ref R.a :: vr ∧ Tb P w K R T H ∧ DVs K (lef R.L H) vr ds ∧ F T ds d T' ∧
  ∀ v H', Tb P w K R T' H' → Same (lef R.L H) (lef R.L H') → DV K (lef R.L H') v d → Q v H'
theorem SD.cons0 {K : PySem.W.Frag} {H : Hp} {σ : St} {G : Gam} (h : SD K H σ G) (o : Option V) : SD K H (o :: σ) (none :: G) := ⟨by simp [h.1], fun i d e => by
  cases i with
  | zero => simp at e
  | succ i =>
    simp at e
    obtain ⟨v, h1, h2⟩ := h.2 i d e
    exact ⟨v, by simpa using h1, h2⟩⟩
theorem start_cons (n : Str) (N : List Str) (v : V) (vs : List V) : start (n :: N) (v :: vs) = some v :: start N vs := by
  unfold start
  simp
section
variable {P : Program} {w : World} {K : PySem.W.Frag} {mg : Str → Option Value} {base : Heap}
theorem Fun.tab {x qual n0 : Str} {st : Stmt} {f : Addr} {fd : FuncData} {N ps : List Str} {k : Nat} {C : Addr} {F : List PyData → List PyData → PyData → List PyData → Prop} (F0 : Fun K x qual st f fd) (S : FnScope (n0 :: N) ps (defScope st)) (len : ∀ T ds d T', F T ds d T' → ds.length + 1 = ps.length)
    (hbody : ∀ (cdv : Value) (A : Around) (outer : List Env) (s : Shared) (H : Hp) (E : XK) (R : Reg) (T ds : List PyData) (d : PyData) (T' : List PyData), Room k (A.deeper (envOfC qual (defScope st) s.heap.objs.size f cdv)) → R.C = C → F T ds d T' →
      PSs (cxOf CX0 P w K mg base (n0 :: N) qual (defScope st) f cdv A outer s H E).nox (defBody st) (tTR P w K R (none :: startG N ds) T d T')) : FnOk P w K mg base CX0 (k + 1) f fd ps (spT P w K C F) := by
  refine F0.ok S (fun vs H Q E ⟨R, T, ds, d, T', vr, _, e, _, dv, hF, _⟩ => by rw [e, List.length_cons, dv.length]; exact len T ds d T' hF) (fun cdv A outer s H vs Q E hr ⟨R, T, ds, d, T', vr, hC, e, tb, dv, hF, q⟩ => ?_)
  subst e
  refine ⟨_, hbody cdv A outer s H E R T ds d T' hr hC hF, ⟨?_, tb, ?_⟩, q⟩
  · rw [start_cons]; rfl
  · rw [start_cons]; exact (SD.start dv).cons0 _
end
section
variable {X : Cx} {R : Reg} {G G1 G2 : Gam} {T T1 T2 : List PyData} {e c a : Expr} {es : List Expr} {d : PyData} {ds : List PyData} {k : Nat} {pos pos' pos2 apos : Pos} {x y m : Str}
end
section
variable {P : Program} {w : World} {K : PySem.W.Frag} {mg : Str → Option Value} {base : Heap}
end
end L2
set_option maxRecDepth 100000
set_option maxHeartbeats 1000000
namespace L2
abbrev Tm := Int × List (Int × Int)
open PySem PySem.Spec PyProof.Rows in
abbrev kys (m : List (Int × Int)) : List Int := m.map (·.1)
theorem getI_cons (q : Int × Int) (m : List (Int × Int)) (a : Int) : getI (q :: m) a = if q.1 = a then q.2 else getI m a := by
  unfold getI
  rw [List.lookup_cons]
  by_cases h : q.1 = a
  · subst h; simp
  · rw [if_neg h, beq_eq_false_iff_ne.mpr (Ne.symm h)]
theorem getI_none {a : Int} : ∀ {m : List (Int × Int)}, a ∉ kys m → getI m a = 0
  | [], _ => rfl
  | q :: m, h => by
    rw [getI_cons, if_neg fun e => h (by rw [← e]; exact List.mem_cons_self), getI_none fun z => h (List.mem_cons_of_mem _ z)]
theorem hasI_iff (m : List (Int × Int)) (a : Int) : hasI m a = true ↔ a ∈ kys m := by
  unfold hasI
  rw [List.any_eq_true]
  constructor
  · rintro ⟨q, hq, e⟩
    exact List.mem_map.mpr ⟨q, hq, of_decide_eq_true e⟩
  · intro h
    obtain ⟨q, hq, e⟩ := List.mem_map.mp h
    exact ⟨q, hq, decide_eq_true e⟩
theorem getI_app (a : Int) (n b : Int) : ∀ (m : List (Int × Int)), a ∉ kys m → getI (m ++ [(a, n)]) b = if b = a then n else getI m b
  | [], _ => by
    show getI [(a, n)] b = _
    rw [getI_cons]
    by_cases h : b = a
    · subst h; simp
    · rw [if_neg h, if_neg fun e => h e.symm]
  | q :: m, h => by
    rw [List.cons_append, getI_cons, getI_cons, getI_app a n b m fun z => h (List.mem_cons_of_mem _ z)]
    by_cases e : q.1 = b
    · have : b ≠ a := fun z => h (by rw [← z, ← e]; exact List.mem_cons_self)
      rw [if_pos e, if_neg this, if_pos e]
    · rw [if_neg e, if_neg e]
theorem getI_rep (a : Int) (n b : Int) : ∀ (m : List (Int × Int)), a ∈ kys m → getI (m.map fun q => if q.1 = a then (q.1, n) else q) b = if b = a then n else getI m b
  | [], h => by cases h
  | q :: m, h => by
    rw [List.map_cons, getI_cons, getI_cons]
    by_cases e : q.1 = a
    · rw [if_pos e]
      by_cases eb : q.1 = b
      · rw [if_pos eb, if_pos (by rw [← eb, e])]
      · rw [if_neg eb, if_neg eb]
        by_cases hm : a ∈ kys m
        · exact getI_rep a n b m hm
        · have : b ≠ a := fun z => eb (by rw [e, z])
          rw [if_neg this]
          congr 1
          have key : ∀ l : List (Int × Int), a ∉ kys l → (l.map fun q => if q.1 = a then (q.1, n) else q) = l := by
            intro l
            induction l with
            | nil => intro _; rfl
            | cons z l ih =>
              intro hz
              rw [List.map_cons, ih fun y => hz (List.mem_cons_of_mem _ y), if_neg fun y => hz (by rw [← y]; exact List.mem_cons_self)]
          exact key m hm
    · rw [if_neg e]
      have hm : a ∈ kys m := by
        rcases List.mem_cons.mp h with z | z
        · exact absurd z.symm e
        · exact z
      by_cases eb : q.1 = b
      · rw [if_pos eb, if_pos eb, if_neg fun z => e (by rw [eb, z])]
      · rw [if_neg eb, if_neg eb]
        exact getI_rep a n b m hm
theorem getI_put (m : List (Int × Int)) (a n b : Int) : getI (putI m a n) b = if b = a then n else getI m b := by
  unfold putI
  by_cases h : hasI m a = true
  · rw [if_pos h]
    exact getI_rep a n b m ((hasI_iff m a).mp h)
  · rw [if_neg h]
    exact getI_app a n b m fun z => h ((hasI_iff m a).mpr z)
theorem kys_put (m : List (Int × Int)) (a n : Int) : kys (putI m a n) = if a ∈ kys m then kys m else kys m ++ [a] := by
  unfold putI
  by_cases h : hasI m a = true
  · rw [if_pos h, if_pos ((hasI_iff m a).mp h)]
    unfold kys
    rw [List.map_map]
    congr 1
    funext q
    simp only [Function.comp]
    split <;> rfl
  · rw [if_neg h, if_neg fun z => h ((hasI_iff m a).mpr z)]
    simp [kys]
theorem put_nodup {m : List (Int × Int)} (a n : Int) (h : (kys m).Nodup) : (kys (putI m a n)).Nodup := by
  rw [kys_put]
  split
  · exact h
  · rename_i hn
    rw [List.nodup_append]
    refine ⟨h, by simp, fun x hx y hy => ?_⟩
    rw [List.mem_singleton.mp hy]
    exact fun e => hn (e ▸ hx)
theorem put_mem {m : List (Int × Int)} {a n x : Int} (h : x ∈ kys (putI m a n)) : x ∈ kys m ∨ x = a := by
  rw [kys_put] at h
  split at h
  · exact .inl h
  · rcases List.mem_append.mp h with h | h
    · exact .inl h
    · exact .inr (List.mem_singleton.mp h)
def made (w : Int) (m : List (Int × Int)) : Tm := (w % 4096, ((srtI (kys m)).filter fun a => !decide (getI m a % 4096 = 0)).map fun a => (a, getI m a % 4096))
def okA (a : Int) : Prop := 0 ≤ a ∧ a < 63
structure Wf (t : Tm) : Prop where
  n : 0 ≤ t.1 ∧ t.1 < 4096
  rise : (kys t.2).Pairwise (· < ·)
  at_ : ∀ a ∈ kys t.2, okA a
  many : ∀ q ∈ t.2, 0 < q.2 ∧ q.2 < 4096
theorem rise_nodup {l : List Int} (h : l.Pairwise (· < ·)) : l.Nodup := h.imp fun h e => by omega
theorem Wf.nodup {t : Tm} (h : Wf t) : (kys t.2).Nodup := rise_nodup h.rise
theorem getI_of_mem : ∀ {m : List (Int × Int)}, (kys m).Nodup → ∀ q ∈ m, getI m q.1 = q.2
  | [], _, q, h => by cases h
  | z :: m, nd, q, h => by
    obtain ⟨h1, h2⟩ := List.nodup_cons.mp nd
    rw [getI_cons]
    rcases List.mem_cons.mp h with e | e
    · rw [e, if_pos rfl]
    · have : z.1 ≠ q.1 := fun y => h1 (by show z.1 ∈ _; rw [y]; exact List.mem_map_of_mem e)
      rw [if_neg this]
      exact getI_of_mem h2 q e
theorem back_of : ∀ {m : List (Int × Int)}, (kys m).Nodup → m = (kys m).map fun a => (a, getI m a) := fun {m} nd => by
  have : ∀ l : List (Int × Int), (∀ q ∈ l, q ∈ m) → l = (kys l).map fun a => (a, getI m a) := by
    intro l
    induction l with
    | nil => intro _; rfl
    | cons z l ih =>
      intro h
      show z :: l = (z.1, getI m z.1) :: (kys l).map fun a => (a, getI m a)
      rw [getI_of_mem nd z (h z List.mem_cons_self), ← ih fun q hq => h q (List.mem_cons_of_mem _ hq)]
  exact this m fun _ h => h
theorem Wf.mem {t : Tm} (h : Wf t) (a : Int) : a ∈ kys t.2 ↔ getI t.2 a ≠ 0 := by
  constructor
  · intro ha
    obtain ⟨q, hq, e⟩ := List.mem_map.mp ha
    have := getI_of_mem h.nodup q hq
    rw [← e, this]
    have := (h.many q hq).1
    omega
  · intro hn
    by_cases z : a ∈ kys t.2
    · exact z
    · exact absurd (getI_none z) hn
theorem Wf.ext {t u : Tm} (h : Wf t) (h' : Wf u) (e : t.1 = u.1) (eg : ∀ a, getI t.2 a = getI u.2 a) : t = u := by
  have ek : kys t.2 = kys u.2 := rise_unique h.rise h'.rise fun x => by rw [h.mem, h'.mem, eg]
  have e2 : t.2 = u.2 := by
    rw [back_of h.nodup, back_of h'.nodup, ek]
    congr 1
    funext a
    rw [eg]
  exact Prod.ext e e2
theorem Wf.co {t : Tm} (h : Wf t) (a : Int) : 0 ≤ getI t.2 a ∧ getI t.2 a < 4096 := by
  by_cases z : a ∈ kys t.2
  · obtain ⟨q, hq, e⟩ := List.mem_map.mp z
    rw [← e, getI_of_mem h.nodup q hq]
    have := h.many q hq
    omega
  · rw [getI_none z]; omega
section
variable {t u v : Tm} {k n : Int}
theorem few_keys {m : List (Int × Int)} (nd : (kys m).Nodup) (h : ∀ a ∈ kys m, okA a) : m.length ≤ 63 := by
  rcases Nat.lt_or_ge 63 m.length with z | z
  · have p := nodup_perm (l := kys m) (m := (List.range 63).map fun i => ((i : Nat) : Int)) nd (fun x hx => by
      obtain ⟨h1, h2⟩ := h x hx
      refine List.mem_map.mpr ⟨x.toNat, List.mem_range.mpr (by omega), by omega⟩) (by simp [kys]; omega)
    have := p.length_eq
    simp [kys] at this
    omega
  · exact z
theorem Wf.few (h : Wf t) : t.2.length ≤ 63 := few_keys h.nodup h.at_
end
end L2
set_option maxRecDepth 100000
set_option maxHeartbeats 1000000
namespace L2
open PySem PySem.Spec PyProof.Rows
section
variable {X : Cx}
end
end L2
set_option maxRecDepth 100000
set_option maxHeartbeats 1000000
namespace L2
open PySem PySem.Spec PyProof.Rows
section
variable {X : Cx} {G : Gam} {H0 : Hp} {p : Addr} {i j : Nat} {e f o a : Expr} {pos pos' pos2 apos : Pos} {m : List (Int × Int)} {d : PyData} {x : Str}
theorem ev_getI {z n : Int} (hu : X.A.units + 1 < cLine) (ho : EV X G o (.dict (dI m))) (hi : EV X G a (.int z)) (hf : EV X G f (.int 0)) (m2 : M2 X o "get" apos a f pos) : EV X G (.Call (.Attribute o "get" apos) [a, f] [] pos) (.int (getI m z)) :=
  (pe_dget2 hu ho hi hf m2).imp fun σ H Q ⟨h, q⟩ => ⟨h, fun y H1 s1 d1 => by
    obtain ⟨ad, kvs, rfl, hk, dk⟩ := d1.of_dct (dI_exc m)
    refine ⟨ad, rfl, .inl ⟨kvs, .inl hk⟩, h.mono s1, fun w H2 s2 d2 => ⟨(h.mono s1).mono s2, fun w3 H3 s3 d3 => ?_⟩⟩
    have e2 := d2.of_int
    have e3 := d3.of_int
    subst e2 e3
    refine ⟨_, DGet.k (k := .inl z) (s3 _ _ (s2 _ _ hk)), q _ H3 ((s1.trans s2).trans s3) ?_⟩
    rw [dk.valI z]
    unfold getI
    cases m.lookup z with
    | none => exact .int 0
    | some v => exact .int v⟩
end
section
variable {X : Cx} {H0 : Hp} {p : Addr} {i j : Nat} {Pre Post : Gam → List (PyData × PyData) → Prop} {pos : Pos}
end
section
variable {X : Cx} {H0 : Hp} {p : Addr} {i j : Nat} {Pre Post : Gam → List PyData → Prop} {pos : Pos}
end
end L2
set_option maxRecDepth 100000
set_option maxHeartbeats 1000000
namespace L2
open PySem PySem.Spec PyProof.Rows
section
variable {X : Cx} {R : Reg} {G G1 G2 : Gam} {T T1 T2 : List PyData} {e c a b : Expr} {es : List Expr} {d : PyData} {ds xs ys : List PyData} {k i : Nat} {pos pos' pos2 pos3 apos : Pos} {x f m : Str}
structure OT (P : Program) (w : World) (K : PySem.W.Frag) (R : Reg) (H0 : Hp) (p : Addr) (T ws : List PyData) (σ : St) (H : Hp) : Prop where
  len : σ.length = 2
  s0 : σ[0]? = some (some (.ref R.a))
  s1 : σ[1]? = some (some (.ref p))
  off : p ∉ R.L
  lst : ∃ us, H p = some (.lst us) ∧ DVs K (lef (p :: R.L) H) us ws
  tab : ∃ fs vs xs, TabS P w K R T (lef (p :: R.L) H) H fs vs xs
  same : Same (lef R.L H0) (lef (p :: R.L) H)
theorem OT.rs {P : Program} {w : World} {K : PySem.W.Frag} {H0 : Hp} {p : Addr} {ws : List PyData} {σ : St} {H : Hp} (o : OT P w K R H0 p T ws σ H) : RS P w K R [none, some (.list ws)] T σ H := by
  obtain ⟨us, hl, du⟩ := o.lst
  obtain ⟨fs, vs, xs, t⟩ := o.tab
  have sb : Same (lef (p :: R.L) H) (lef R.L H) := lef_sub fun b hb => List.mem_cons_of_mem _ hb
  refine ⟨o.s0, ⟨fs, vs, xs, t.mono sb (Same.refl _)⟩, by rw [o.len]; rfl, fun j d e => ?_⟩
  match j, e with
  | 0, e => simp at e
  | 1, e =>
    have e : PyData.list ws = d := by simpa using e
    subst e
    exact ⟨_, o.s1, .lst (SqL.of (by rw [lef_ne o.off]; exact hl)) (du.mono sb)⟩
  | j + 2, e => simp at e
end
end L2
set_option maxRecDepth 100000
set_option maxHeartbeats 1000000
namespace L2
open PySem PySem.Spec PyProof.Rows
section
variable {P : Program} {w : World} {K : PySem.W.Frag} {mg : Str → Option Value} {base : Heap}
def MFn (P : Program) (w : World) (K : PySem.W.Frag) (mg : Str → Option Value) (base : Heap) (k : Nat) (C : Addr) (m : Str) (F : List PyData → PyData → Prop) : Prop :=
  ∃ f fd ps, FnOk P w K mg base CX0 k f fd ps (spD K F) ∧ Meth K C m f ∧ Binds K fd ps []
theorem Fun.dataM {x qual m : Str} {st : Stmt} {f : Addr} {fd : FuncData} {N ps : List Str} {k : Nat} {C : Addr} {F : List PyData → PyData → Prop} (F0 : Fun K x qual st f fd) (hm : Meth K C m f) (hb : Binds K fd ps []) (S : FnScope N ps (defScope st)) (len : ∀ ds d, F ds d → ds.length = ps.length)
    (hbody : ∀ (cdv : Value) (A : Around) (outer : List Env) (s : Shared) (H : Hp) (E : XK) (ds : List PyData) (d : PyData), Room k (A.deeper (envOfC qual (defScope st) s.heap.objs.size f cdv)) → F ds d →
      SVs (cxOf CX0 P w K mg base N qual (defScope st) f cdv A outer s H E).nox (startG N ds) (defBody st) (.ret d)) : MFn P w K mg base (k + 1) C m F :=
  ⟨f, fd, ps, F0.ok S (fun vs H Q E ⟨ds, d, h1, h2, _⟩ => h1.length.trans (len ds d h2)) (fun cdv A outer s H vs Q E hr ⟨ds, d, h1, h2, q⟩ => ⟨_, hbody cdv A outer s H E ds d hr h2, SD.start h1, q⟩), hm, hb⟩
end
section
variable {X : Cx} {G : Gam} {C : Addr} {k k2 i j : Nat} {e : Expr} {es : List Expr} {ds T : List PyData} {d : PyData} {fls : List (PyData × PyData)} {pos pos2 apos p1 p2 p3 p4 p5 p6 p7 p8 p9 : Pos} {x m xt xa xf : Str}
theorem ev_methD {F : List PyData → PyData → Prop} {pl : Sem Bool} (cl : Cls X.K C) (D : MFn X.prog X.w X.K X.mg X.base k C m F) (hr : Room k X.A) (hv : EV X G (.Name x pos2) (objD C fls)) (ha : AV X G (e :: es) ds) (hF : F (objD C fls :: ds) d) (h1 : m ∉ fldsAll := by decide)
    (hst : starEach (e :: es) X.env = (false, eval e X.env) :: starEach es X.env := by rfl) (hpl : (backTo pos (starEach es X.env)).any (·.1) = false := by rfl)
    (ht : eval (.Call (.Attribute (.Name x pos2) m apos) (e :: es) [] pos) X.env = (do
      let ov ← eval (.Name x pos2) X.env
      standAt apos.atName
      let (f, first) ← holding [ov] (getMethod ov m pl)
      callWith pos f first (backTo pos (starEach (e :: es) X.env)) (backToKw pos (keywordEach [] X.env))) := by rfl) :
    EV X G (.Call (.Attribute (.Name x pos2) m apos) (e :: es) [] pos) d := by
  obtain ⟨f, fd, ps, ok, hm, hb⟩ := D
  refine (pe_meth (E := E0) (dvs := []) (ds := []) hv cl hm ok hr hb .nil pass0 ha hst hpl ht).imp fun σ H Q ⟨h, q⟩ => ⟨h, fun v H1 s1 d1 => ?_⟩
  obtain ⟨a, dx, fs, rfl, ho, hf, hn⟩ := d1.of_objN
  refine ⟨a, dx, fs, rfl, ho, hn m h1, h.mono s1, fun vs H2 s2 dvs => ?_⟩
  show spD X.K F (V.ref a :: (vs ++ [])) H2 Q E0
  rw [List.append_nil]
  exact ⟨_, d, .cons (d1.mono s2) dvs, hF, fun v H3 s3 d3 => q v H3 ((s1.trans s2).trans s3) d3⟩
end
end L2
set_option maxRecDepth 100000
set_option maxHeartbeats 1000000
namespace L2
open PySem PySem.Spec PyProof.Rows
section
variable {X : Cx} {G : Gam} {x : Str} {pos : Pos} {d : PyData}
end
end L2
set_option maxRecDepth 100000
set_option maxHeartbeats 1000000
namespace L2
open PySem PySem.Spec PyProof.Rows
section
variable {prog : Program} {w : World} {A : Around} {E : Value → Shared → Prop} {s : Shared}
end
section
variable {X : Cx} {G : Gam} {pos : Pos} {e c a b tg : Expr} {d : PyData}
def bindL (is : List Nat) (d : PyData) (G : Gam) : Gam := match d with
  | .list ds => bindN is ds G
  | _ => G
end
end L2
set_option maxRecDepth 100000
set_option maxHeartbeats 1000000
namespace L2
open PySem PySem.Spec PyProof.Rows
structure ZOk (L : List Addr) (I : Hp → Prop) : Prop where
  step : ∀ {H H' : Hp}, I H → Same H H' → I H'
  notup : ∀ {H : Hp}, I H → ∀ b ∈ L, ∀ xs, ¬ Rd H b (.tup xs)
  free : ∀ {H : Hp} {p : Addr}, I H → H p = none → p ∉ L
def RZ (K : PySem.W.Frag) (L : List Addr) (I : Hp → Prop) (rs : List (Nat × Addr)) (G : Gam) (σ : St) (H : Hp) : Prop := (∀ q ∈ rs, σ[q.1]? = some (some (.ref q.2))) ∧ I H ∧ SD K (lef L H) σ G
def zE (K : PySem.W.Frag) (L : List Addr) (I : Hp → Prop) (rs : List (Nat × Addr)) (G : Gam) (d : PyData) (I' : Hp → Prop) : TE := fun σ H Q => RZ K L I rs G σ H ∧ ∀ v H', I' H' → Same (lef L H) (lef L H') → DV K (lef L H') v d → Q v H'
abbrev ZE (X : Cx) (L : List Addr) (I : Hp → Prop) (rs : List (Nat × Addr)) (G : Gam) (e : Expr) (d : PyData) (I' : Hp → Prop) : Prop := PE X e (zE X.K L I rs G d I')
def zT (K : PySem.W.Frag) (L : List Addr) (I : Hp → Prop) (rs : List (Nat × Addr)) (G : Gam) (k : Bool) : TT := fun σ H Q => RZ K L I rs G σ H ∧ ∀ H', RZ K L I rs G σ H' → Same (lef L H) (lef L H') → Q k H'
abbrev ZT (X : Cx) (L : List Addr) (I : Hp → Prop) (rs : List (Nat × Addr)) (G : Gam) (e : Expr) (k : Bool) : Prop := PT X e (zT X.K L I rs G k)
def zA (K : PySem.W.Frag) (L : List Addr) (I : Hp → Prop) (rs : List (Nat × Addr)) (G : Gam) (ds : List PyData) (I' : Hp → Prop) : TA := fun σ H Q => RZ K L I rs G σ H ∧ ∀ vs H', I' H' → Same (lef L H) (lef L H') → DVs K (lef L H') vs ds → Q vs H'
abbrev ZA (X : Cx) (L : List Addr) (I : Hp → Prop) (rs : List (Nat × Addr)) (G : Gam) (es : List Expr) (ds : List PyData) (I' : Hp → Prop) : Prop := PA X es (zA X.K L I rs G ds I')
def zN (K : PySem.W.Frag) (L : List Addr) (I : Hp → Prop) (rs : List (Nat × Addr)) (G G' : Gam) (I' : Hp → Prop) : TS := fun D σ H => RZ K L I rs G σ H ∧ ∀ σ' H', RZ K L I' rs G' σ' H' → Same (lef L H) (lef L H') → D.nx σ' H'
def zR (K : PySem.W.Frag) (L : List Addr) (I : Hp → Prop) (rs : List (Nat × Addr)) (G : Gam) (d : PyData) (I' : Hp → Prop) : TS := fun D σ H => RZ K L I rs G σ H ∧ ∀ v H', I' H' → Same (lef L H) (lef L H') → DV K (lef L H') v d → D.rt v H'
section
variable {X : Cx} {L : List Addr} {I I1 I2 : Hp → Prop} {rs : List (Nat × Addr)} {G G1 G2 : Gam} {e c a b : Expr} {es : List Expr} {d : PyData} {ds : List PyData} {k : Bool} {pos pos' pos2 apos : Pos} {x f m : Str} {i : Nat}
theorem RZ.sd {K : PySem.W.Frag} {σ : St} {H : Hp} (r : RZ K L I rs G σ H) : SD K H σ G := r.2.2.mono lef_same
theorem RZ.step {K : PySem.W.Frag} {σ : St} {H H' : Hp} (ok : ZOk L I) (r : RZ K L I rs G σ H) (s : Same H H') : RZ K L I rs G σ H' := ⟨r.1, ok.step r.2.1 s, r.2.2.mono s.lef⟩
theorem RZ.next {K : PySem.W.Frag} {σ : St} {H H' : Hp} (r : RZ K L I rs G σ H) (i : I1 H') (s : Same (lef L H) (lef L H')) : RZ K L I1 rs G σ H' := ⟨r.1, i, r.2.2.mono s⟩
theorem ze_of (ok : ZOk L I) (h : EV X G e d) (hn : noL d = true) : ZE X L I rs G e d I := h.imp fun σ H Q ⟨r, q⟩ => ⟨r.sd, fun v H' s' dv => q v H' (ok.step r.2.1 s') s'.lef (DV.lef (ok.notup (ok.step r.2.1 s')) dv hn)⟩
theorem zt_of (ok : ZOk L I) (h : TV X G c k) : ZT X L I rs G c k := h.imp fun σ H Q ⟨r, q⟩ => ⟨r.sd, fun H' s' => q H' (r.step ok s') s'.lef⟩
theorem za_nil : ZA X L I rs G [] [] I := pa_nil.imp fun σ H Q ⟨r, q⟩ => q [] H r.2.1 (Same.refl _) .nil
theorem za_cons (h : ZE X L I rs G e d I1) (hr : ZA X L I1 rs G es ds I2) (hs : starEach (e :: es) X.env = (false, eval e X.env) :: starEach es X.env := by rfl) : ZA X L I rs G (e :: es) (d :: ds) I2 :=
  (pa_cons h hr hs).imp fun σ H Q ⟨r, q⟩ => ⟨r, fun v H1 t1 s1 d1 => ⟨r.next t1 s1, fun vs H2 t2 s2 d2 => q (v :: vs) H2 t2 (s1.trans s2) (.cons (d1.mono s2) d2)⟩⟩
theorem zn_cons {st : Stmt} {sts : List Stmt} (h1 : PS X st (zN X.K L I rs G G1 I1)) (h2 : PSs X sts (zN X.K L I1 rs G1 G2 I2)) : PSs X (st :: sts) (zN X.K L I rs G G2 I2) :=
  (pss_cons h1 h2).imp fun D σ H ⟨r, q⟩ => ⟨r, fun σ' H' r' s' => ⟨r', fun σ2 H2 r2 s2 => q σ2 H2 r2 (s'.trans s2)⟩⟩
theorem zn_nil : PSs X [] (zN X.K L I rs G G I) := pss_nil.imp fun D σ H ⟨r, q⟩ => q σ H r (Same.refl _)
theorem zn_set (hN : X.N.Nodup) (hi : X.N[i]? = some x) (hi0 : i ∉ rs.map (·.1)) (hx : Loc X.env.scope x) (h : ZE X L I rs G e d I1) (hs : swapsWith e (some (.Name x pos')) pos.line X.env = pure false := by rfl)
    (hf : X.fn x = true ∨ X.env.scope.names.lookup x = some .local := by first | exact .inl rfl | exact .inr rfl | assumption) : PS X (.Assign [.Name x pos'] e pos) (zN X.K L I rs G (G.set i (some d)) I1) :=
  (ps_set hN hi hx h hs hf).imp fun D σ H ⟨r, q⟩ => ⟨r, fun v H1 t1 s1 d1 => q _ H1 ⟨fun z hz => by rw [List.getElem?_set_ne fun y => hi0 (List.mem_map.mpr ⟨z, hz, y.symm⟩)]; exact r.1 z hz, t1, (r.2.2.mono s1).set d1⟩ s1⟩
end
def Kz (K : PySem.W.Frag) (p : Addr) (S : List PyData) (H : Hp) : Prop := ∃ us, H p = some (.lst us) ∧ DVs K (lef [p] H) us S ∧ noLs S = true
def spK (K : PySem.W.Frag) (F : List PyData → List PyData → PyData → List PyData → Prop) : Sp := fun vs H Q _ => ∃ (p : Addr) (S ds : List PyData) (d : PyData) (S' : List PyData) (vr : List V), vs = .ref p :: vr ∧ Kz K p S H ∧ DVs K (lef [p] H) vr ds ∧ F S ds d S' ∧
  ∀ v H', Kz K p S' H' → Same (lef [p] H) (lef [p] H') → DV K (lef [p] H') v d → Q v H'
def KFn (P : Program) (w : World) (K : PySem.W.Frag) (mg : Str → Option Value) (base : Heap) (k : Nat) (x : Str) (F : List PyData → List PyData → PyData → List PyData → Prop) : Prop :=
  ∃ f fd ps, FnOk P w K mg base CX0 k f fd ps (spK K F) ∧ mg x = some (.ref f) ∧ PySem.W.keepIn K (.ref f) = true ∧ Binds K fd ps []
theorem Fun.kept {P : Program} {w : World} {K : PySem.W.Frag} {mg : Str → Option Value} {base : Heap} {x qual n0 : Str} {st : Stmt} {f : Addr} {fd : FuncData} {N ps : List Str} {k : Nat} {F : List PyData → List PyData → PyData → List PyData → Prop} (F0 : Fun K x qual st f fd) (hm : mg x = some (.ref f)) (hb : Binds K fd ps []) (S0 : FnScope (n0 :: N) ps (defScope st)) (len : ∀ S ds d S', F S ds d S' → ds.length + 1 = ps.length)
    (hbody : ∀ (cdv : Value) (A : Around) (outer : List Env) (s : Shared) (H : Hp) (E : XK) (p : Addr) (S ds : List PyData) (d : PyData) (S' : List PyData), Room k (A.deeper (envOfC qual (defScope st) s.heap.objs.size f cdv)) → F S ds d S' →
      PSs (cxOf CX0 P w K mg base (n0 :: N) qual (defScope st) f cdv A outer s H E).nox (defBody st) (zR K [p] (Kz K p S) [(0, p)] (none :: startG N ds) d (Kz K p S'))) : KFn P w K mg base (k + 1) x F := by
  refine ⟨f, fd, ps, F0.ok S0 (fun vs H Q E ⟨p, S, ds, d, S', vr, e, _, dv, hF, _⟩ => by rw [e, List.length_cons, dv.length]; exact len S ds d S' hF) (fun cdv A outer s H vs Q E hr ⟨p, S, ds, d, S', vr, e, kz, dv, hF, q⟩ => ?_), hm, F0.kp, hb⟩
  subst e
  refine ⟨_, hbody cdv A outer s H E p S ds d S' hr hF, ⟨fun z hz => ?_, kz, ?_⟩, q⟩
  · have := List.mem_singleton.mp hz
    subst this
    rw [start_cons]
    rfl
  · rw [start_cons]; exact (SD.start dv).cons0 _
section
variable {X : Cx} {G G1 G2 : Gam} {e c a b : Expr} {es : List Expr} {d : PyData} {ds S : List PyData} {k i : Nat} {pos pos' pos2 apos p1 : Pos} {x y f m : Str} {p : Addr} {rs : List (Nat × Addr)}
end
end L2
set_option maxRecDepth 100000
set_option maxHeartbeats 1000000
namespace L2
open PySem PySem.Spec PyProof.Rows
section
variable {X : Cx} {G : Gam} {o e : Expr} {pos : Pos} {d : PyData} {xs : List PyData}
end
end L2
set_option maxRecDepth 100000
set_option maxHeartbeats 1000000
namespace L2
open PySem PySem.Spec PyProof.Rows
section
variable {X : Cx} {L : List Addr} {I I1 I2 : Hp → Prop} {rs : List (Nat × Addr)} {G G1 G2 : Gam} {e c a b : Expr} {es : List Expr} {d : PyData} {ds : List PyData} {k : Bool} {pos pos' pos2 apos : Pos} {x f m : Str} {i : Nat}
end
def TKz (P : Program) (w : World) (K : PySem.W.Frag) (R : Reg) (ka : Addr) (T S : List PyData) (H : Hp) : Prop := Tb P w K R T H ∧ ka ∉ R.L ∧ ∃ us, H ka = some (.lst us) ∧ DVs K (lef (ka :: R.L) H) us S ∧ noLs S = true
abbrev tkL (R : Reg) (ka : Addr) : List Addr := ka :: R.L
theorem tkz_ok {P : Program} {w : World} {K : PySem.W.Frag} {R : Reg} {ka : Addr} {T S : List PyData} : ZOk (tkL R ka) (TKz P w K R ka T S) where
  step := fun ⟨t, h0, us, h1, h2, h3⟩ s => ⟨t.step s, h0, us, s _ _ h1, h2.mono s.lef, h3⟩
  notup := fun ⟨t, h0, us, h1, _⟩ b hb xs r => by
    rcases List.mem_cons.mp hb with e | hb
    · subst e
      rcases r with r | ⟨q, r⟩ <;> (rw [h1] at r; cases r)
    · obtain ⟨_, _, _, t⟩ := t
      exact t.notup b hb xs r
  free := fun ⟨t, h0, us, h1, _⟩ hp hm => by
    rcases List.mem_cons.mp hm with e | hm
    · subst e
      rw [h1] at hp
      cases hp
    · exact tb_free t hp hm
section
variable {X : Cx} {R : Reg} {ka : Addr} {rs : List (Nat × Addr)} {G G1 G2 : Gam} {T T1 T2 S S' : List PyData} {e c a b : Expr} {es : List Expr} {d : PyData} {ds : List PyData} {k i : Nat} {pos pos' pos2 apos p1 : Pos} {x f m : Str}
end
section
variable {X : Cx} {R : Reg} {ka : Addr} {rs : List (Nat × Addr)} {G G1 G2 : Gam} {T T1 T2 S S' : List PyData} {e c a b : Expr} {es : List Expr} {d : PyData} {ds : List PyData} {k i j : Nat} {pos pos' pos2 pos3 apos p1 : Pos} {x y f m : Str}
theorem ze_var (hv : PE X (.Name x pos) (tVar i)) {L : List Addr} {I : Hp → Prop} (hG : G[i]? = some (some d)) : ZE X L I rs G (.Name x pos) d I := hv.imp fun σ H Q ⟨r, q⟩ => by
  obtain ⟨v, e, dv⟩ := r.2.2.2 i d hG
  exact ⟨v, e, q v H r.2.1 (Same.refl _) dv⟩
end
end L2
set_option maxRecDepth 100000
set_option maxHeartbeats 1000000
namespace L2
open PySem PySem.Spec PyProof.Rows
structure LS (P : Program) (w : World) (K : PySem.W.Frag) (R : Reg) (ka q : Addr) (H0 : Hp) (T told : List PyData) (G : Gam) (σ : St) (H : Hp) : Prop where
  r1 : σ[1]? = some (some (.ref R.a))
  r2 : σ[2]? = some (some (.ref ka))
  r3 : σ[3]? = some (some (.ref q))
  tk : TKz P w K R ka T T H
  off : q ∉ tkL R ka
  lst : ∃ us, H q = some (.lst us) ∧ DVs K (lef (q :: tkL R ka) H) us told
  nl : noLs told = true
  sd : SD K (lef (q :: tkL R ka) H) σ G
  sm : Same H0 (lef (q :: tkL R ka) H)
section
variable {P : Program} {w : World} {K : PySem.W.Frag} {R : Reg} {ka q : Addr} {H0 : Hp} {T told : List PyData} {G : Gam} {σ : St} {H H' : Hp}
theorem set_selfS {i : Nat} {v : V} (h : σ[i]? = some (some v)) : σ.set i (some v) = σ := by
  refine List.ext_getElem? fun j => ?_
  by_cases hj : i = j
  · subst hj
    rw [List.getElem?_set_self (List.getElem?_eq_some_iff.mp h).1, h]
  · rw [List.getElem?_set_ne hj]
theorem LS.step (s : LS P w K R ka q H0 T told G σ H) (e : Same H H') : LS P w K R ka q H0 T told G σ H' := ⟨s.r1, s.r2, s.r3, tkz_ok.step s.tk e, s.off, let ⟨us, h1, h2⟩ := s.lst; ⟨us, e _ _ h1, h2.mono e.lef⟩, s.nl, s.sd.mono e.lef, s.sm.trans e.lef⟩
theorem LS.notup (s : LS P w K R ka q H0 T told G σ H) : ∀ b ∈ q :: tkL R ka, ∀ xs, ¬ Rd H b (.tup xs) := fun b hb xs r => by
  rcases List.mem_cons.mp hb with e | hb
  · subst e
    obtain ⟨us, h1, _⟩ := s.lst
    rcases r with r | ⟨q, r⟩ <;> (rw [h1] at r; cases r)
  · exact tkz_ok.notup s.tk b hb xs r
end
section
variable {X : Cx} {C : Addr} {H0 : Hp} {T told T1 told1 T2 told2 : List PyData} {G G1 G2 : Gam} {e c : Expr} {es : List Expr} {d : PyData} {k i j : Nat} {pos pos' pos2 pos3 pos4 apos p1 p2 p3 p4 p5 : Pos} {x y z f : Str}
end
end L2
set_option maxRecDepth 100000
set_option maxHeartbeats 1000000
namespace L2
open PySem PySem.Spec PyProof.Rows
section
variable {X : Cx} {G : Gam} {a : Expr} {pos : Pos}
theorem evf_slL {lo hi : Option Expr} {ol oh : Option Int} {p2 : Pos} {ds : List PyData} (ha : EV X G a (.list ds)) (hl : OV X G lo ol) (hh : OV X G hi oh) : EVF X G (.Subscript a (.Slice lo hi none p2) pos) (cutD ds ol oh) :=
  (pe_slice sl_list ha hl hh).imp fun σ H Q ⟨h, q⟩ => ⟨h, fun v H1 s1 d1 => ⟨h.mono s1, fun H2 s2 => ⟨(h.mono s1).mono s2, fun H3 s3 => by
    obtain ⟨l, us, rfl, hl, d3⟩ := ((d1.mono s2).mono s3).of_lst
    exact ⟨l, us, rfl, hl, fun p hp => q p _ _ (((s1.trans s2).trans s3).free hp) (((s1.trans s2).trans s3).trans (Same.new hp)) upd_same ((d3.cut ol oh).mono (Same.new hp))⟩⟩⟩⟩
end
section
variable {X : Cx} {C : Addr} {G : Gam} {k k2 i j : Nat} {sts body : List Stmt} {tg c : Expr} {pos p1 p2 p3 p4 p5 p6 p7 p8 p9 q1 q2 q3 q4 q5 q6 : Pos} {x xt xk xo : Str}
end
end L2
set_option maxRecDepth 100000
set_option maxHeartbeats 1000000
namespace L2
open PySem PySem.Spec PyProof.Rows
def Mo (a b : Int) : Prop := ∃ c : Int, a = b + 4096 * c
theorem Mo.symm {a b : Int} (h : Mo a b) : Mo b a := let ⟨c, e⟩ := h; ⟨-c, by omega⟩
theorem Mo.trans {a b c : Int} (h : Mo a b) (g : Mo b c) : Mo a c := let ⟨x, e⟩ := h; let ⟨y, f⟩ := g; ⟨x + y, by omega⟩
theorem Mo.mod (a : Int) : Mo (a % 4096) a := ⟨-(a / 4096), by omega⟩
theorem Mo.eq {a b : Int} (h : Mo a b) : a % 4096 = b % 4096 := let ⟨c, e⟩ := h; by omega
inductive Atm where
  | box (k : Int)
  | tru (k : Int)
  | cel (t : Tm) (n : Int)
  | two (o : Nat) (t u : Tm)
structure Sta where
  bx : List Int
  tr : List Bool
  rd : List ((Int × Int) × Int)
def rdG (rd : List ((Int × Int) × Int)) (a n : Int) : Int := (rd.lookup (a, n)).getD 0
end L2
set_option maxRecDepth 100000
set_option maxHeartbeats 1000000
namespace L2
open PySem PySem.Spec PyProof.Rows
theorem DV.of_pp {K : PySem.W.Frag} {H : Hp} {v : V} {m : List ((Int × Int) × Int)} (h : DV K H v (.dict (ppE m))) : ∃ a m', v = .ref a ∧ H a = some (.dT (ppK m')) ∧ ppE m' = ppE m := by
  generalize e : PyData.dict (ppE m) = d at h
  cases h with
  | dct h t =>
    injection e with e
    subst e
    have z := excC_dvk t
    unfold ppE excC at z
    cases z
  | dtt h =>
    injection e with e
    exact ⟨_, _, rfl, h, e.symm⟩
  | _ => unfold ppE at e; cases e
theorem ppE_inj {m m' : List ((Int × Int) × Int)} (h : ppE m' = ppE m) : m' = m := by
  unfold ppE at h
  injection h with _ h
  have : ∀ {l l' : List ((Int × Int) × Int)}, (l.map fun q => ((PyData.tuple [.int q.1.1, .int q.1.2], PyData.int q.2) : PyData × PyData)) = l'.map (fun q => (PyData.tuple [.int q.1.1, .int q.1.2], PyData.int q.2)) → l = l' := by
    intro l
    induction l with
    | nil => intro l' h; cases l' with
      | nil => rfl
      | cons a r => cases h
    | cons a r ih => intro l' h; cases l' with
      | nil => cases h
      | cons b r2 =>
        rw [List.map_cons, List.map_cons] at h
        injection h with h1 h2
        injection h1 with h1 h3
        injection h1 with h1
        injection h1 with h1 h4
        injection h4 with h4
        injection h1 with h1
        injection h4 with h4
        injection h3 with h3
        rw [ih h2, Prod.ext (Prod.ext h1 h4 : a.1 = b.1) h3]
  exact this h
theorem valPP (m : List ((Int × Int) × Int)) (a b : Int) : valV (ppK m) [.inl a, .inl b] = (m.lookup (a, b)).map V.int := by
  unfold valV ppK
  induction m with
  | nil => rfl
  | cons q m ih =>
    rw [List.map_cons, List.find?_cons, List.lookup_cons]
    by_cases h : q.1 = (a, b)
    · have h' : ((a, b) == q.1) = true := by rw [h]; exact beq_self_eq_true _
      rw [h', decide_eq_true (by rw [h])]
      rfl
    · have h' : ((a, b) == q.1) = false := beq_eq_false_iff_ne.mpr (Ne.symm h)
      rw [h', decide_eq_false fun z => h (by
        injection z with z1 z2
        injection z2 with z2
        exact Prod.ext (Sum.inl.inj z1) (Sum.inl.inj z2))]
      exact ih
section
variable {X : Cx} {G : Gam} {o f a b : Expr} {pos apos tp : Pos} {kt} {m : List ((Int × Int) × Int)}
theorem ev_getPP {za zb : Int} (hu : X.A.units + 1 < cLine) (ho : EV X G o (.dict (ppE m))) (ha : EV X G a (.int za)) (hb : EV X G b (.int zb)) (hf : EV X G f (.int 0)) (m2 : M2 X o "get" apos (.Tuple [a, b] kt tp) f pos)
    (hs : starEach [a, b] X.env = (false, eval a X.env) :: starEach [b] X.env := by rfl) (hs2 : starEach [b] X.env = (false, eval b X.env) :: starEach [] X.env := by rfl) : EV X G (.Call (.Attribute o "get" apos) [.Tuple [a, b] kt tp, f] [] pos) (.int (rdG m za zb)) :=
  (pe_dget2 hu ho (pe_tup (av_cons ha (av_cons hb av_nil hs2) hs)) hf m2).imp fun σ H Q ⟨h, q⟩ => ⟨h, fun y H1 s1 d1 => by
    obtain ⟨ad, m', rfl, hk, em⟩ := d1.of_pp
    have em := ppE_inj em
    subst em
    refine ⟨ad, rfl, .inr ⟨_, .inl hk⟩, h.mono s1, fun vs H2 s2 d2 => ⟨by rw [d2.length]; show 2 ≤ _; rw [sizeLine_eq]; omega, fun p hp => ⟨((h.mono s1).mono s2).mono (Same.new hp), fun w3 H3 s3 d3 => ?_⟩⟩⟩
    obtain ⟨v1, v2, rfl, e1, e2⟩ := d2.two
    have e1 := e1.of_int
    have e2 := e2.of_int
    have e3 := d3.of_int
    subst e1 e2 e3
    have sn : Same H2 (upd H2 p (.tup [.int za, .int zb])) := Same.new hp
    refine ⟨_, DGet.t (k := [.inl za, .inl zb]) (s3 _ _ (sn _ _ (s2 _ _ hk))) (s3 _ _ upd_same), q _ H3 (((s1.trans s2).trans sn).trans s3) ?_⟩
    rw [valPP]
    unfold rdG
    cases m'.lookup (za, zb) with
    | none => exact .int 0
    | some v => exact .int v⟩
end
theorem dictT_ne {H : Hp} {p a : Addr} {kvs : List (List Key × V)} {o : HO} (hp : H p = some (.dT kvs)) (e : H a = some o) (n : ∀ k, o ≠ .dT k) : a ≠ p := fun c => by subst c; rw [hp] at e; cases e; exact n _ rfl
mutual
theorem DV.noDT {K : PySem.W.Frag} {H H' : Hp} {p : Addr} {kvs : List (List Key × V)} (hp : H p = some (.dT kvs)) (hH : ∀ a, a ≠ p → H' a = H a) : ∀ {v : V} {d : PyData}, DV K H v d → noK d = true → DV K H' v d
  | _, _, .non, _ => .non
  | _, _, .bl b, _ => .bl b
  | _, _, .int i, _ => .int i
  | _, _, .str x, _ => .str x
  | _, _, .tup (a := a) h t, f => by
    refine .tup ?_ (DVs.noDT hp hH t (by unfold noK at f; exact f))
    rcases h with (h | ⟨o, h⟩) | h
    · exact .inl (.inl (by rw [hH a (dictT_ne hp h fun _ c => by cases c)]; exact h))
    · exact .inl (.inr ⟨o, by rw [hH a (dictT_ne hp h fun _ c => by cases c)]; exact h⟩)
    · exact .inr h
  | _, _, .lst (a := a) h t, f => by
    refine .lst ?_ (DVs.noDT hp hH t (by unfold noK at f; exact f))
    rcases h with (h | ⟨o, h⟩) | h
    · exact .inl (.inl (by rw [hH a (dictT_ne hp h fun _ c => by cases c)]; exact h))
    · exact .inl (.inr ⟨o, by rw [hH a (dictT_ne hp h fun _ c => by cases c)]; exact h⟩)
    · exact .inr h
  | _, _, .dct h t, f => by unfold noK at f; cases f
  | _, _, .exc h, f => by unfold noK at f; cases f
  | _, _, .exr h h', f => by unfold noK at f; cases f
  | _, _, .obj h n t, f => by unfold noK at f; cases f
  | _, _, .dtt h, f => by unfold noK at f; cases f
theorem DVs.noDT {K : PySem.W.Frag} {H H' : Hp} {p : Addr} {kvs : List (List Key × V)} (hp : H p = some (.dT kvs)) (hH : ∀ a, a ≠ p → H' a = H a) : ∀ {v : List V} {d : List PyData}, DVs K H v d → noKs d = true → DVs K H' v d
  | _, _, .nil, _ => .nil
  | _, _, .cons h t, f => by
    unfold noKs at f
    rw [Bool.and_eq_true] at f
    exact .cons (DV.noDT hp hH h f.1) (DVs.noDT hp hH t f.2)
end
abbrev PM := List ((Int × Int) × Int)
abbrev plusP (G : Gam) (i : Nat) (m : PM) : Gam := G.set i (some (.dict (ppE m)))
def OP (K : PySem.W.Frag) (H0 : Hp) (p : Addr) (i : Nat) (G : Gam) (m : PM) (σ : St) (H : Hp) : Prop :=
  ∃ Hb, H = upd Hb p (.dT (ppK m)) ∧ Hb p = none ∧ Same H0 Hb ∧ SD K Hb σ G ∧ σ[i]? = some (some (.ref p))
theorem OP.sd {K : PySem.W.Frag} {H0 : Hp} {p : Addr} {i : Nat} {G : Gam} {m : PM} {σ : St} {H : Hp} (h : OP K H0 p i G m σ H) : SD K H σ (plusP G i m) := by
  obtain ⟨Hb, rfl, hn, s0, hσ, hi⟩ := h
  have h1 := hσ.mono (Same.new (o := .dT (ppK m)) hn)
  have h2 := h1.set (i := i) (v := .ref p) (d := .dict (ppE m)) (.dtt upd_same)
  rw [set_selfS hi] at h2
  exact h2
theorem OP.step {K : PySem.W.Frag} {H0 : Hp} {p : Addr} {i : Nat} {G : Gam} {m : PM} {σ : St} {H H' : Hp} (h : OP K H0 p i G m σ H) (s : Same H H') :
    OP K H0 p i G m σ H' ∧ ∀ v d, DV K H' v d → noK d = true → ∃ Hb, H' = upd Hb p (.dT (ppK m)) ∧ Hb p = none ∧ Same H0 Hb ∧ SD K Hb σ G ∧ σ[i]? = some (some (.ref p)) ∧ DV K Hb v d := by
  obtain ⟨Hb, rfl, hn, s0, hσ, hi⟩ := h
  have hp : H' p = some (.dT (ppK m)) := s p _ upd_same
  have sb : Same Hb (dele H' p) := fun b o e => by
    have hb : b ≠ p := ne_of_none e hn
    rw [dele_ne hb]
    exact s b o (by rw [upd_ne hb]; exact e)
  exact ⟨⟨dele H' p, (upd_deleO hp).symm, dele_same, s0.trans sb, hσ.mono sb, hi⟩, fun v d q f => ⟨dele H' p, (upd_deleO hp).symm, dele_same, s0.trans sb, hσ.mono sb, hi, DV.noDT hp (fun a ha => dele_ne ha) q f⟩⟩
section
variable {X : Cx} {H0 : Hp} {p : Addr} {i j : Nat} {Pre Mid Post : Gam → PM → Prop} {e c a b f : Expr} {pos pos' pos2 tp : Pos} {kt} {x : Str} {G : Gam} {d : PyData}
end
end L2
set_option maxRecDepth 100000
set_option maxHeartbeats 1000000
namespace L2
open PySem PySem.Spec PyProof.Rows
section
variable {prog : Program} {w : World} {A : Around}
theorem ints_get : ∀ {us : List Value} {ns : List Int}, IntsAre us ns → ∀ {i : Nat} {v : Value}, us[i]? = some v → ∃ t, v = .int (ns.getD i 0) t
  | _, _, .nil, i, v, h => by simp at h
  | _, _, .cons k t r, i, v, h => by
    cases i with
    | zero => simp at h; exact ⟨t, by rw [← h]; rfl⟩
    | succ i => simpa using ints_get r (i := i) (v := v) (by simpa using h)
variable {E : Value → Shared → Prop} {s : Shared}
end
end L2
set_option maxRecDepth 100000
set_option maxHeartbeats 1000000
namespace L2
open PySem PySem.Spec PyProof.Rows
section
variable {X : Cx} {G : Gam} {a b : Expr} {pos p kp : Pos} {ns : List Int} {d : Int}
end
end L2
set_option maxRecDepth 100000
set_option maxHeartbeats 4000000
namespace L2
open PySem PySem.Spec PyProof.Rows
section
variable {X : Cx} {G : Gam} {a b : Expr} {pos p : Pos}
end
end L2
set_option maxRecDepth 100000
set_option maxHeartbeats 1000000
namespace L2
open PySem PySem.Spec PyProof.Rows
section
variable {X : Cx} {G : Gam} {a e : Expr} {pos p2 : Pos}
end
end L2
set_option maxRecDepth 100000
set_option maxHeartbeats 1000000
namespace L2
open PySem PySem.Spec PyProof.Rows
section
variable {X : Cx} {L : List Addr} {I I1 I2 : Hp → Prop} {rs : List (Nat × Addr)} {G G1 G2 : Gam} {e c a b : Expr} {es : List Expr} {d : PyData} {ds ws : List PyData} {k : Bool} {pos pos' pos2 apos : Pos} {x f m : Str} {i j : Nat}
end
section
variable {X : Cx} {R : Reg} {rs : List (Nat × Addr)} {G G1 G2 : Gam} {T T1 T2 : List PyData} {e c a b : Expr} {es : List Expr} {d : PyData} {ds : List PyData} {k i j : Nat} {pos pos' pos2 apos p1 : Pos} {x f m : Str}
end
section
variable {X : Cx} {C : Addr} {G : Gam} {k i : Nat} {sts : List Stmt} {d : PyData} {p1 p2 p3 p4 : Pos} {x xt : Str}
end
end L2
set_option maxRecDepth 100000
set_option maxHeartbeats 1000000
namespace L2
open PySem PySem.Spec PyProof.Rows
section
variable {X : Cx} {R : Reg} {rs : List (Nat × Addr)} {G : Gam} {T T1 : List PyData} {es : List Expr} {d : PyData} {ds : List PyData} {k i : Nat} {pos pos2 p1 : Pos} {x f : Str}
end
end L2
set_option maxRecDepth 100000
set_option maxHeartbeats 4000000
namespace L2
open PySem PyProof.Rows
def hM : Nat := 2 ^ 64
def hP1 : Nat := 11400714785074694791
def hP2 : Nat := 14029467366897019727
def hQ2 : Nat := 839798700976720815
def hC : Nat := 2 ^^^ (2870177450012600261 ^^^ 3527539)
def hRot (x : Nat) : Nat := (x * 2 ^ 31) % hM + x / 2 ^ 33
def hF (acc h : Nat) : Nat := (hRot ((acc + h * hP2) % hM) * hP1) % hM
def hG (a b : Nat) : Nat := (hF (hF 2870177450012600261 a) b + hC) % hM
def hB (a : Nat) : Nat := hF 2870177450012600261 a * hQ2 % hM
def hBs (n : Nat) : List Nat := (List.range n).map fun a => hB a / 2 ^ 44
end L2
set_option maxRecDepth 100000
set_option maxHeartbeats 4000000
namespace L2
open PySem PyProof.Rows
section
variable {prog : Program} {w : World} {A : Around} {E : Value → Shared → Prop} {s : Shared} {K : Type} [DecidableEq K] {knd : KeyKind prog w K}
end
end L2
set_option maxRecDepth 100000
set_option maxHeartbeats 4000000
namespace L2
open PySem PySem.Spec PyProof.Rows
structure PPAt (h : Heap) (a : Addr) (m : List ((Int × Int) × Int)) (xs : List (List Key × Addr × Value)) : Prop where
  len : xs.length = m.length
  at_ : ∀ (i : Nat) q, m[i]? = some q → ∃ b t, xs[i]? = some ([.inl q.1.1, .inl q.1.2], b, .int q.2 t)
  dct : ∀ (P : Program) (w : World), h.DictOfH (tupleKind (mixKind P w)) a xs
section
variable {prog : Program} {w : World} {A : Around} {E : Value → Shared → Prop} {s : Shared}
end
end L2
set_option maxRecDepth 100000
set_option maxHeartbeats 1000000
namespace L2
open PySem PySem.Spec PyProof.Rows
structure OR where
  C : Addr
  a : Addr
  dx : Addr
  ls : List (Str × Addr)
abbrev OR.L (R : OR) : List Addr := R.a :: R.dx :: R.ls.map (·.2)
abbrev LF := List (Str × List PyData)
abbrev DF := List (Str × PyData)
def upL (f : Str) (ds : List PyData) (lf : LF) : LF := lf.map fun q => if q.1 = f then (q.1, ds) else q
def upD (f : Str) (d : PyData) (df : DF) : DF := df.map fun q => if q.1 = f then (q.1, d) else q
theorem upL_keys (f : Str) (ds : List PyData) (lf : LF) : (upL f ds lf).map (·.1) = lf.map (·.1) := by
  unfold upL
  rw [List.map_map]
  exact List.map_congr_left fun q _ => by show (if q.1 = f then (q.1, ds) else q).1 = q.1; split <;> rfl
theorem upD_keys (f : Str) (d : PyData) (df : DF) : (upD f d df).map (·.1) = df.map (·.1) := by
  unfold upD
  rw [List.map_map]
  exact List.map_congr_left fun q _ => by show (if q.1 = f then (q.1, d) else q).1 = q.1; split <;> rfl
theorem mem_upL {f : Str} {ds : List PyData} {lf : LF} {q : Str × List PyData} (h : q ∈ upL f ds lf) : (q.1 = f ∧ q.2 = ds ∧ f ∈ lf.map (·.1)) ∨ (q.1 ≠ f ∧ q ∈ lf) := by
  unfold upL at h
  obtain ⟨r, hr, e⟩ := List.mem_map.mp h
  split at e
  · rename_i z
    refine .inl ⟨by rw [← e]; exact z, by rw [← e], ?_⟩
    rw [← z]
    exact List.mem_map_of_mem hr
  · rename_i z
    subst e
    exact .inr ⟨z, hr⟩
structure OzS (K : PySem.W.Frag) (R : OR) (lf : LF) (df : DF) (Hb H : Hp) (fs : List (Str × V)) : Prop where
  obj : H R.a = some (.ins R.C R.dx fs)
  own1 : H R.dx = some (.own R.a)
  few : fs.length ≤ 40
  nam : ∀ m : Str, m ∉ fldsAll → fs.lookup m = none
  nda : R.L.Nodup
  apart : ∀ q ∈ df, q.1 ∉ lf.map (·.1)
  own : ∀ q ∈ R.ls, ∃ us, H q.2 = some (.lst us)
  lst : ∀ q ∈ lf, ∃ p us, (q.1, p) ∈ R.ls ∧ fs.lookup q.1 = some (.ref p) ∧ H p = some (.lst us) ∧ DVs K Hb us q.2 ∧ noLs q.2 = true
  dat : ∀ q ∈ df, ∃ v, fs.lookup q.1 = some v ∧ DV K Hb v q.2
def Oz (K : PySem.W.Frag) (R : OR) (lf : LF) (df : DF) (H : Hp) : Prop := ∃ fs, OzS K R lf df (lef R.L H) H fs
theorem OzS.mono {K : PySem.W.Frag} {R : OR} {lf : LF} {df : DF} {Hb Hb' H H' : Hp} {fs : List (Str × V)} (t : OzS K R lf df Hb H fs) (s : Same Hb Hb') (s2 : Same H H') : OzS K R lf df Hb' H' fs :=
  ⟨s2 _ _ t.obj, s2 _ _ t.own1, t.few, t.nam, t.nda, t.apart, fun q hq => let ⟨us, h⟩ := t.own q hq; ⟨us, s2 _ _ h⟩, fun q hq => let ⟨p, us, h1, h2, h3, h4, h5⟩ := t.lst q hq; ⟨p, us, h1, h2, s2 _ _ h3, h4.mono s, h5⟩, fun q hq => let ⟨v, h1, h2⟩ := t.dat q hq; ⟨v, h1, h2.mono s⟩⟩
def fldD (lf : LF) (df : DF) : List (PyData × PyData) := (lf.map fun q => ((.str q.1, .list q.2) : PyData × PyData)) ++ df.map fun q => (.str q.1, q.2)
theorem dvf_all {K : PySem.W.Frag} {H : Hp} {fs : List (Str × V)} : ∀ {l : List (Str × PyData)}, (∀ q ∈ l, ∃ v, fs.lookup q.1 = some v ∧ DV K H v q.2) → DVf K H fs (l.map fun q => ((.str q.1, q.2) : PyData × PyData))
  | [], _ => .nil
  | q :: r, h => by
    obtain ⟨v, h1, h2⟩ := h q List.mem_cons_self
    exact .cons h1 h2 (dvf_all fun z hz => h z (List.mem_cons_of_mem _ hz))
theorem fldD_eq (lf : LF) (df : DF) : fldD lf df = ((lf.map fun q => ((q.1, .list q.2) : Str × PyData)) ++ df).map fun q => ((.str q.1, q.2) : PyData × PyData) := by
  unfold fldD
  rw [List.map_append, List.map_map]
  rfl
theorem OzS.dv {K : PySem.W.Frag} {R : OR} {lf : LF} {df : DF} {L : List Addr} {H : Hp} {fs : List (Str × V)} (t : OzS K R lf df (lef L H) H fs) : DV K H (.ref R.a) (objD R.C (fldD lf df)) := by
  refine .obj t.obj t.nam ?_
  rw [fldD_eq]
  refine dvf_all fun q hq => ?_
  rcases List.mem_append.mp hq with hq | hq
  · obtain ⟨z, hz, rfl⟩ := List.mem_map.mp hq
    obtain ⟨p, us, _, h2, h3, h4, _⟩ := t.lst z hz
    exact ⟨.ref p, h2, .lst (SqL.of h3) (h4.mono lef_same)⟩
  · obtain ⟨v, h1, h2⟩ := t.dat q hq
    exact ⟨v, h1, h2.mono lef_same⟩
section
variable {X : Cx} {R : OR} {lf : LF} {df : DF} {rs : List (Nat × Addr)} {G G1 G2 : Gam} {e c a b : Expr} {es : List Expr} {d : PyData} {ds ws : List PyData} {k i j : Nat} {pos pos' pos2 pos3 pos4 apos p1 : Pos} {x f m : Str}
theorem OzS.put {K : PySem.W.Frag} {H : Hp} {fs : List (Str × V)} {p : Addr} {us : List V} (t : OzS K R lf df (lef R.L H) H fs) (hp : (f, p) ∈ R.ls) (hf : fs.lookup f = some (.ref p)) (dv : DVs K (lef R.L H) us ds) (hn : noLs ds = true) : Oz K R (upL f ds lf) df (upd H p (.lst us)) := by
  have hpL : p ∈ R.L := List.mem_cons_of_mem _ (List.mem_cons_of_mem _ (List.mem_map_of_mem (f := (·.2)) hp))
  have eL : lef R.L (upd H p (.lst us)) = lef R.L H := lef_upd hpL
  have npa : R.a ≠ p := fun z => (List.nodup_cons.mp t.nda).1 (by rw [z]; exact List.mem_cons_of_mem _ (List.mem_map_of_mem (f := (·.2)) hp))
  have npd : R.dx ≠ p := fun z => (List.nodup_cons.mp (List.nodup_cons.mp t.nda).2).1 (by rw [z]; exact List.mem_map_of_mem (f := (·.2)) hp)
  refine ⟨fs, ?_⟩
  rw [eL]
  refine ⟨by rw [upd_ne npa]; exact t.obj, by rw [upd_ne npd]; exact t.own1, t.few, t.nam, t.nda, fun z hz => by rw [upL_keys]; exact t.apart z hz, fun z hz => ?_, fun z hz => ?_, t.dat⟩
  · by_cases e : z.2 = p
    · rw [e]; exact ⟨us, upd_same⟩
    · rw [upd_ne e]; exact t.own z hz
  · rcases mem_upL hz with ⟨e1, e2, _⟩ | ⟨e1, e2⟩
    · rw [e1, e2]
      exact ⟨p, us, hp, hf, upd_same, dv, hn⟩
    · obtain ⟨p', us', h1, h2, h3, h4, h5⟩ := t.lst z e2
      have hne : p' ≠ p := fun w => by
        subst w
        have : ∀ {l : List (Str × Addr)}, (l.map (·.2)).Nodup → (f, p') ∈ l → (z.1, p') ∈ l → z.1 = f := by
          intro l
          induction l with
          | nil => intro _ h; cases h
          | cons y r ih =>
            intro hn h1 h2
            rw [List.map_cons, List.nodup_cons] at hn
            rcases List.mem_cons.mp h1 with e | h1 <;> rcases List.mem_cons.mp h2 with e' | h2
            · rw [← e'] at e; cases e; rfl
            · exact absurd (by rw [← e]; exact List.mem_map_of_mem (f := (·.2)) h2) hn.1
            · exact absurd (by rw [← e']; exact List.mem_map_of_mem (f := (·.2)) h1) hn.1
            · exact ih hn.2 h1 h2
        exact e1 (this (List.nodup_cons.mp (List.nodup_cons.mp t.nda).2).2 hp h1)
      exact ⟨p', us', h1, h2, by rw [upd_ne hne]; exact h3, h4, h5⟩
end
end L2
set_option maxRecDepth 100000
set_option maxHeartbeats 1000000
namespace L2
open PySem PySem.Spec PyProof.Rows
section
variable {P : Program} {w : World} {K : PySem.W.Frag} {mg : Str → Option Value} {base : Heap}
end
section
variable {X : Cx} {L : List Addr} {I I1 I2 : Hp → Prop} {R : OR} {lf lf' lf1 : LF} {df df' df1 : DF} {rs : List (Nat × Addr)} {G G1 G2 : Gam} {e c a b : Expr} {es : List Expr} {d : PyData} {ds ws : List PyData} {k i j : Nat} {pos pos' pos2 pos3 pos4 apos p1 : Pos} {x f m : Str}
end
structure OB (K : PySem.W.Frag) (C a dx : Addr) (H0 : Hp) (ls : List (Str × Addr)) (lf : LF) (df : DF) (G : Gam) (σ : St) (H : Hp) (fs : List (Str × V)) : Prop where
  slot : σ[0]? = some (some (.ref a))
  oz : OzS K ⟨C, a, dx, ls⟩ lf df (lef (OR.L ⟨C, a, dx, ls⟩) H) H fs
  sd : SD K (lef (OR.L ⟨C, a, dx, ls⟩) H) σ G
  cnt : fs.length ≤ lf.length + df.length
  keep : ∀ b o, b ≠ a → H0 b = some o → H b = some o
  fre : ∀ q ∈ ls, H0 q.2 = none
section
variable {X : Cx} {C a dx : Addr} {H0 : Hp} {lf lf' lf2 : LF} {df df' df2 : DF} {G : Gam} {e : Expr} {d : PyData} {ws : List PyData} {pos pos' pos2 : Pos} {x f : Str}
theorem OB.step {K : PySem.W.Frag} {ls : List (Str × Addr)} {σ : St} {H H' : Hp} {fs : List (Str × V)} (o : OB K C a dx H0 ls lf df G σ H fs) (s : Same H H') : OB K C a dx H0 ls lf df G σ H' fs :=
  ⟨o.slot, o.oz.mono s.lef s, o.sd.mono s.lef, o.cnt, fun b u hb e => s _ _ (o.keep b u hb e), o.fre⟩
theorem OB.data {K : PySem.W.Frag} {ls : List (Str × Addr)} {σ : St} {H : Hp} {fs : List (Str × V)} {y : V} (o : OB K C a dx H0 ls lf df G σ H fs) (dv : DV K (lef (OR.L ⟨C, a, dx, ls⟩) H) y d) (hf : f ∉ lf.map (·.1)) (hf2 : f ∉ df.map (·.1)) (hA : f ∈ fldsAll) (hz : lf.length + df.length < 30) : OB K C a dx H0 ls lf (df ++ [(f, d)]) G σ (upd H a (.ins C dx (putF f y fs))) (putF f y fs) := by
  have eL : lef (OR.L ⟨C, a, dx, ls⟩) (upd H a (.ins C dx (putF f y fs))) = lef (OR.L ⟨C, a, dx, ls⟩) H := lef_upd List.mem_cons_self
  have nal : ∀ p ∈ ls.map (·.2), p ≠ a := fun p hp z => (List.nodup_cons.mp o.oz.nda).1 (z ▸ List.mem_cons_of_mem _ hp)
  have nad : dx ≠ a := fun z => (List.nodup_cons.mp o.oz.nda).1 (z ▸ List.mem_cons_self)
  have hlen := length_putF f y fs
  have hc := o.cnt
  refine ⟨o.slot, ?_, by rw [eL]; exact o.sd, by rw [List.length_append]; show _ ≤ lf.length + (df.length + 1); omega, fun b u hb e => by rw [upd_ne hb]; exact o.keep b u hb e, o.fre⟩
  rw [eL]
  refine ⟨upd_same, by rw [upd_ne nad]; exact o.oz.own1, by omega, fun m hm => ?_, o.oz.nda, fun z hz => ?_, fun z hz => ?_, fun z hz => ?_, fun z hz => ?_⟩
  · rw [lookup_putF, if_neg (fun w : m = f => hm (w ▸ hA))]
    exact o.oz.nam m hm
  · rcases List.mem_append.mp hz with hz | hz
    · exact o.oz.apart z hz
    · rw [List.mem_singleton.mp hz]; exact hf
  · obtain ⟨us, hu⟩ := o.oz.own z hz
    exact ⟨us, by rw [upd_ne (nal _ (List.mem_map_of_mem hz))]; exact hu⟩
  · obtain ⟨p, us, h1, h2, h3, h4, h5⟩ := o.oz.lst z hz
    refine ⟨p, us, h1, ?_, ?_, h4, h5⟩
    · rw [lookup_putF, if_neg (fun w : z.1 = f => hf (w ▸ List.mem_map_of_mem hz))]
      exact h2
    · rw [upd_ne (nal _ (List.mem_map_of_mem (f := (·.2)) h1))]
      exact h3
  · rcases List.mem_append.mp hz with hz | hz
    · obtain ⟨v, h1, h2⟩ := o.oz.dat z hz
      exact ⟨v, by rw [lookup_putF, if_neg (fun w : z.1 = f => hf2 (w ▸ List.mem_map_of_mem hz))]; exact h1, h2⟩
    · rw [List.mem_singleton.mp hz]
      exact ⟨y, by rw [lookup_putF, if_pos rfl], dv⟩
theorem OB.ok {K : PySem.W.Frag} {ls : List (Str × Addr)} {σ : St} {H : Hp} {fs : List (Str × V)} (o : OB K C a dx H0 ls lf df G σ H fs) : Oz K ⟨C, a, dx, ls⟩ lf df H := ⟨fs, o.oz⟩
end
section
variable {X : Cx} {C : Addr} {G : Gam} {k i : Nat} {e : Expr} {es : List Expr} {ds : List PyData} {lf : LF} {df : DF} {sts : List Stmt} {d : PyData} {p1 p2 p3 p4 : Pos} {x xt : Str}
end
end L2
set_option maxRecDepth 100000
set_option maxHeartbeats 1000000
namespace L2
open PySem PySem.Spec PyProof.Rows
section
variable {X : Cx} {L : List Addr} {I I1 : Hp → Prop} {rs : List (Nat × Addr)} {G : Gam} {e : Expr} {pos : Pos} {i j l : Nat}
end
end L2
set_option maxRecDepth 100000
set_option maxHeartbeats 1000000
namespace L2
open PySem PySem.Spec PyProof.Rows
def Fo (H : Hp) (L : List Addr) (b : Addr) : Prop := (∃ xs, H b = some (.lst xs)) ∨ (∃ C dx fs, H b = some (.ins C dx fs) ∧ dx ∈ L) ∨ ∃ a C fs, H b = some (.own a) ∧ a ∈ L ∧ H a = some (.ins C b fs)
def joinH (L : List Addr) (H H' : Hp) : Hp := fun b => if b ∈ L then H b else H' b
theorem joinH_in {L : List Addr} {H H' : Hp} {b : Addr} (h : b ∈ L) : joinH L H H' b = H b := by unfold joinH; rw [if_pos h]
theorem joinH_ne {L : List Addr} {H H' : Hp} {b : Addr} (h : b ∉ L) : joinH L H H' b = H' b := by unfold joinH; rw [if_neg h]
theorem lef_joinH {L : List Addr} {H H' : Hp} (h : ∀ b ∈ L, H' b = none) : lef L (joinH L H H') = H' := by
  funext b
  by_cases hb : b ∈ L
  · rw [lef_in hb, h b hb]
  · rw [lef_ne hb, joinH_ne hb]
section
variable {X : Cx} {pins : List (Addr × Obj)} {σ : St} {H H' : Hp} {s s' : Shared} {L : List Addr}
theorem Fo.obj (I : Inv X pins σ H s) {b : Addr} (f : Fo H L b) : ∃ o, s.heap.get? b = some o ∧ ∀ v, o.data ≠ .cell v := by
  rcases f with ⟨xs, e⟩ | ⟨C, dx, fs, e, _⟩ | ⟨a, C, fs, e, _, ea⟩
  · obtain ⟨_, its, n, _, g⟩ := (show ObjOk X.prog X.w H s.heap b (.lst xs) from I.hok b _ e)
    exact ⟨_, g, fun v z => by cases z⟩
  · obtain ⟨_, _, _, g, _⟩ := (show ObjOk X.prog X.w H s.heap b (.ins C dx fs) from I.hok b _ e)
    exact ⟨_, g, fun v z => by cases z⟩
  · obtain ⟨_, _, _, _, mA, ⟨od, es, ep, g, d, _⟩, _⟩ := (show ObjOk X.prog X.w H s.heap a (.ins C b fs) from I.hok a _ ea)
    exact ⟨od, g, fun v z => by rw [d] at z; cases z⟩
theorem Fo.some {b : Addr} (f : Fo H L b) : ∃ o, H b = some o ∧ (∀ xs, o ≠ .tup xs) ∧ (∀ q u, o ≠ .frz q u) ∧ ∀ ps, o ≠ .tbl ps := by
  rcases f with ⟨xs, e⟩ | ⟨C, dx, fs, e, _⟩ | ⟨a, C, fs, e, _, _⟩
  · exact ⟨_, e, (fun _ z => by cases z), (fun _ _ z => by cases z), (fun _ z => by cases z)⟩
  · exact ⟨_, e, (fun _ z => by cases z), (fun _ _ z => by cases z), (fun _ z => by cases z)⟩
  · exact ⟨_, e, (fun _ z => by cases z), (fun _ _ z => by cases z), (fun _ z => by cases z)⟩
end
def Fq (H : Hp) (L : List Addr) (b : Addr) : Prop := Fo H L b ∨ ∃ kvs, H b = some (.dK kvs)
section
variable {X : Cx} {pins : List (Addr × Obj)} {σ σ' : St} {H H' : Hp} {s s' : Shared} {L : List Addr}
theorem Fq.obj (I : Inv X pins σ H s) {b : Addr} (f : Fq H L b) : ∃ o, s.heap.get? b = some o ∧ ∀ v, o.data ≠ .cell v := by
  rcases f with f | ⟨kvs, e⟩
  · exact f.obj I
  · obtain ⟨_, _, vs, _, ob, es, ep, g, _, d, _⟩ := dk_rd I.hok (.inl e)
    exact ⟨ob, g, fun v z => by rw [d] at z; cases z⟩
theorem Fq.some {b : Addr} (f : Fq H L b) : ∃ o, H b = some o ∧ (∀ xs, o ≠ .tup xs) ∧ (∀ q u, o ≠ .frz q u) ∧ ∀ ps, o ≠ .tbl ps := by
  rcases f with f | ⟨kvs, e⟩
  · exact f.some
  · exact ⟨_, e, (fun _ z => by cases z), (fun _ _ z => by cases z), (fun _ z => by cases z)⟩
theorem Fo.mono {b : Addr} (f : Fo H L b) (s : Same H H') : Fo H' L b := by
  rcases f with ⟨xs, e⟩ | ⟨C, dx, fs, e, h⟩ | ⟨a, C, fs, e, h, ea⟩
  · exact .inl ⟨xs, s _ _ e⟩
  · exact .inr (.inl ⟨C, dx, fs, s _ _ e, h⟩)
  · exact .inr (.inr ⟨a, C, fs, s _ _ e, h, s _ _ ea⟩)
theorem Fq.mono {b : Addr} (f : Fq H L b) (s : Same H H') : Fq H' L b := by
  rcases f with f | ⟨kvs, e⟩
  · exact .inl (f.mono s)
  · exact .inr ⟨kvs, s _ _ e⟩
theorem Inv.regainQ (I : Inv X pins σ H s) (hL : ∀ b ∈ L, Fq H L b) {ps : List (Addr × Obj)} (e : ps.map (·.1) = L) (J0 : Inv X (ps ++ pins) σ (lef L H) s) (J : Inv X (ps ++ pins) σ' H' s') : (∀ b ∈ L, H' b = none) ∧ Inv X pins σ' (joinH L H H') s' := by
  have fr : ∀ b ∈ L, H' b = none ∧ ∀ o, s.heap.get? b = some o → s'.heap.get? b = some o := fun b hb => by
    rw [← e] at hb
    obtain ⟨p, hp, rfl⟩ := List.mem_map.mp hb
    have j := J.pin p (List.mem_append_right _ (List.mem_append_left _ hp))
    have j0 := J0.pin p (List.mem_append_right _ (List.mem_append_left _ hp))
    exact ⟨j.2.1, fun o ho => by rw [j0.1] at ho; cases ho; exact j.1⟩
  have non : ∀ {b : Addr}, (b ∈ L → H b = none) → H' b = none → joinH L H H' b = none := fun {b} h h' => by
    by_cases hb : b ∈ L
    · rw [joinH_in hb]; exact h hb
    · rw [joinH_ne hb]; exact h'
  have up : ∀ {b : Addr} {o : HO}, H' b = some o → joinH L H H' b = some o := fun {b o} h => by
    have hb : b ∉ L := fun z => by rw [(fr b z).1] at h; cases h
    rw [joinH_ne hb]; exact h
  refine ⟨fun b hb => (fr b hb).1, J.ok, J.os, J.bare, ⟨J.base.keep, J.base.slot, fun b o h1 h2 h3 => non (fun _ => I.base.free b o h1 h2 h3) (J.base.free b o h1 h2 h3), J.base.there, fun b xs h => up (J.base.tups b xs h), fun b o u h => up (J.base.frzs b o u h), fun b q h => let ⟨more, z⟩ := J.base.tbls b q h; ⟨more, up z⟩⟩, J.loc, J.cell, non (fun _ => I.free) J.free, fun x c h => non (fun _ => I.freeC x c h) (J.freeC x c h), fun p hp => ?_, fun a o h => ?_, J.len⟩
  · have hp' : p ∈ X.pn ++ (ps ++ pins) := by
      rcases List.mem_append.mp hp with h | h
      · exact List.mem_append_left _ h
      · exact List.mem_append_right _ (List.mem_append_right _ h)
    obtain ⟨a, b, c⟩ := J.pin p hp'
    exact ⟨a, non (fun _ => (I.pin p hp).2.1) b, c⟩
  · by_cases ha : a ∈ L
    · rw [joinH_in ha] at h
      rcases hL a ha with (⟨xs, e'⟩ | ⟨C, dx, fs, e', hdx⟩ | ⟨a', C, fs, e', ha', ea'⟩) | ⟨kvs, e'⟩
      · rw [h] at e'
        cases e'
        obtain ⟨z, its, n, r, g⟩ := (show ObjOk X.prog X.w H s.heap a (.lst xs) from I.hok a _ h)
        exact ⟨z, its, n, r, (fr a ha).2 _ g⟩
      · rw [h] at e'
        cases e'
        obtain ⟨d, z, ne, g, mA, ⟨od, es, ep, g2, c⟩, r⟩ := (show ObjOk X.prog X.w H s.heap a (.ins C dx fs) from I.hok a _ h)
        exact ⟨by rw [joinH_in hdx]; exact d, z, ne, (fr a ha).2 _ g, mA, ⟨od, es, ep, (fr dx hdx).2 _ g2, c⟩, r⟩
      · rw [h] at e'
        cases e'
        obtain ⟨ob, g⟩ := (show ObjOk X.prog X.w H s.heap a (.own a') from I.hok a _ h)
        exact ⟨ob, (fr a ha).2 _ g⟩
      · rw [h] at e'
        cases e'
        obtain ⟨z, hd, vs, rel, ob, es, ep, g, c⟩ := (show ObjOk X.prog X.w H s.heap a (.dK kvs) from I.hok a _ h)
        exact ⟨z, hd, vs, rel, ob, es, ep, (fr a ha).2 _ g, c⟩
    · rw [joinH_ne ha] at h
      exact (J.hok a o h).stay (fun b u _ q => q) (fun b hb => up hb) fun b xs hb => up hb
end
end L2
set_option maxRecDepth 100000
set_option maxHeartbeats 1000000
namespace L2
open PySem PySem.Spec PyProof.Rows
theorem Oz.fo {K : PySem.W.Frag} {R : OR} {lf : LF} {df : DF} {H : Hp} (i : Oz K R lf df H) : ∀ b ∈ R.L, Fo H R.L b := fun b hb => by
  obtain ⟨fs, t⟩ := i
  rcases List.mem_cons.mp hb with e | e
  · exact .inr (.inl ⟨_, _, _, by rw [e]; exact t.obj, List.mem_cons_of_mem _ List.mem_cons_self⟩)
  rcases List.mem_cons.mp e with e | e
  · exact .inr (.inr ⟨R.a, R.C, fs, by rw [e]; exact t.own1, List.mem_cons_self, by rw [e]; exact t.obj⟩)
  · obtain ⟨q, hq, rfl⟩ := List.mem_map.mp e
    exact .inl (t.own q hq)
theorem Oz.join {K : PySem.W.Frag} {R : OR} {lf : LF} {df : DF} {H H' : Hp} (i : Oz K R lf df H) (n : ∀ b ∈ R.L, H' b = none) (s : Same (lef R.L H) H') : Oz K R lf df (joinH R.L H H') := by
  obtain ⟨fs, t⟩ := i
  refine ⟨fs, ?_⟩
  rw [lef_joinH n]
  refine ⟨by rw [joinH_in List.mem_cons_self]; exact t.obj, by rw [joinH_in (List.mem_cons_of_mem _ List.mem_cons_self)]; exact t.own1, t.few, t.nam, t.nda, t.apart, fun q hq => ?_, fun q hq => ?_, fun q hq => ?_⟩
  · rw [joinH_in (List.mem_cons_of_mem _ (List.mem_cons_of_mem _ (List.mem_map_of_mem hq)))]
    exact t.own q hq
  · obtain ⟨p, us, h1, h2, h3, h4, h5⟩ := t.lst q hq
    exact ⟨p, us, h1, h2, by rw [joinH_in (List.mem_cons_of_mem _ (List.mem_cons_of_mem _ (List.mem_map_of_mem (f := (·.2)) h1)))]; exact h3, h4.mono s, h5⟩
  · obtain ⟨v, h1, h2⟩ := t.dat q hq
    exact ⟨v, h1, h2.mono s⟩
section
variable {X : Cx} {H0 : Hp} {p : Addr} {i j l : Nat} {Pre Post : Gam → List PyData → Prop} {e : Expr} {pos pos' : Pos} {x : Str}
theorem OSt.fo {K : PySem.W.Frag} {G : Gam} {ds : List PyData} {σ : St} {H : Hp} (o : OSt K H0 p i G ds σ H) : ∀ b ∈ [p], Fo H [p] b := fun b hb => by
  obtain ⟨Hb, vs, rfl, _⟩ := o
  rw [List.mem_singleton.mp hb]
  exact .inl ⟨vs, upd_same⟩
theorem OSt.join {K : PySem.W.Frag} {G : Gam} {ds : List PyData} {σ : St} {H H' : Hp} (o : OSt K H0 p i G ds σ H) (n : ∀ b ∈ [p], H' b = none) (s : Same (lef [p] H) H') : ∃ vs, joinH [p] H H' = upd H' p (.lst vs) ∧ H' p = none ∧ Same H0 H' ∧ SD K H' σ G ∧ σ[i]? = some (some (.ref p)) ∧ DVs K H' vs ds := by
  obtain ⟨Hb, vs, rfl, hn, s0, hσ, hi, dv⟩ := o
  have e1 : lef [p] (upd Hb p (.lst vs)) = Hb := by
    funext b
    by_cases hb : b = p
    · rw [hb, lef_in List.mem_cons_self, hn]
    · rw [lef_ne (by simpa using hb), upd_ne hb]
  rw [e1] at s
  refine ⟨vs, ?_, n p List.mem_cons_self, s0.trans s, hσ.mono s, hi, dv.mono s⟩
  funext b
  by_cases hb : b = p
  · rw [hb, joinH_in List.mem_cons_self, upd_same, upd_same]
  · rw [joinH_ne (by simpa using hb), upd_ne hb]
end
end L2
set_option maxRecDepth 100000
set_option maxHeartbeats 1000000
namespace L2
open PySem PySem.Spec PyProof.Rows
end L2
set_option maxRecDepth 100000
set_option maxHeartbeats 1000000
namespace L2
open PySem PySem.Spec PyProof.Rows
section
variable {X : Cx} {L : List Addr} {rs : List (Nat × Addr)} {G : Gam} {c : Expr} {d : PyData} {j m : Nat} {pos : Pos} {α : Type} {Iv : α → Hp → Prop} {T : α}
end
section
variable {X : Cx} {G : Gam} {e : Expr} {pos : Pos}
end
end L2
set_option maxRecDepth 100000
set_option maxHeartbeats 1000000
namespace L2
open PySem PySem.Spec PyProof.Rows
def IsR (C : Addr) (oa : Option Addr) (R : OR) : Prop := R.C = C ∧ ∀ a, oa = some a → R.a = a
def YZ (K : PySem.W.Frag) (C : Addr) (oa : Option Addr) (i : Nat) (G : Gam) (lf : LF) (df : DF) (R : OR) (σ : St) (H : Hp) : Prop := IsR C oa R ∧ RZ K R.L (Oz K R lf df) [(i, R.a)] G σ H
section
variable {X : Cx} {C : Addr} {oa : Option Addr} {i j k : Nat} {lf lf' lf1 lf2 : LF} {df df' df1 df2 : DF} {G G1 G2 G' : Gam} {e c : Expr} {es : List Expr} {d : PyData} {ds ws : List PyData} {pos pos' pos2 pos3 apos : Pos} {x f m : Str} {st : Stmt} {sts : List Stmt}
end
end L2
set_option maxRecDepth 100000
set_option maxHeartbeats 1000000
namespace L2
open PySem PySem.Spec PyProof.Rows
section
variable {X : Cx} {C : Addr} {oa : Option Addr} {i j k : Nat} {lf lf' lf1 lf2 : LF} {df df' df1 df2 : DF} {G G1 G2 G' : Gam} {e c : Expr} {es : List Expr} {d : PyData} {ds ws : List PyData} {pos pos' pos2 pos3 apos : Pos} {x f m : Str} {st : Stmt} {sts : List Stmt}
end
end L2
set_option maxRecDepth 100000
set_option maxHeartbeats 1000000
namespace L2
open PySem PySem.Spec PyProof.Rows
section
variable {P : Program} {w : World} {K : PySem.W.Frag} {mg : Str → Option Value} {base : Heap}
end
section
variable {X : Cx} {C : Addr} {oa : Option Addr} {i j k : Nat} {lf lf' lf1 lf2 : LF} {df df' df1 df2 : DF} {G G1 G2 G' : Gam} {e c : Expr} {es : List Expr} {d : PyData} {ds ws : List PyData} {pos pos' pos2 pos3 apos p1 p2 p3 p4 : Pos} {x xt f m : Str} {st : Stmt} {sts : List Stmt}
theorem YZ.mk {K : PySem.W.Frag} {R : OR} {σ : St} {H H' : Hp} (hσ : SD K H σ G) (hl : i < G.length) (hG : G[i]? = some none) (hC : R.C = C) (t : Oz K R lf df H') (s : Same H (lef R.L H')) : YZ K C none i G lf df R (σ.set i (some (.ref R.a))) H' := by
  refine ⟨⟨hC, fun _ z => by cases z⟩, fun z hz => ?_, t, ⟨by rw [List.length_set]; exact hσ.1, fun j d ej => ?_⟩⟩
  · have := List.mem_singleton.mp hz
    subst this
    exact List.getElem?_set_self (by rw [hσ.1]; exact hl)
  · by_cases hj : i = j
    · subst hj; rw [hG] at ej; cases ej
    · rw [List.getElem?_set_ne hj]
      exact (hσ.mono s).2 j d ej
end
end L2
set_option maxRecDepth 100000
set_option maxHeartbeats 1000000
namespace L2
open PySem PySem.Spec PyProof.Rows
section
variable {X : Cx} {L : List Addr} {rs : List (Nat × Addr)} {G : Gam} {c : Expr} {d : PyData} {j m : Nat} {pos : Pos} {α : Type} {Iv : α → Hp → Prop} {T : α}
end
section
variable {X : Cx} {L : List Addr} {I I1 I2 : Hp → Prop} {rs : List (Nat × Addr)} {G : Gam} {a b e : Expr} {es : List Expr} {d da db : PyData} {ds : List PyData} {C : Addr} {k k2 : Nat} {lf lf' : LF} {df df' : DF} {fls : List (PyData × PyData)} {pos pos2 pos3 apos apos2 : Pos} {x m m2 : Str}
end
end L2
set_option maxRecDepth 100000
set_option maxHeartbeats 1000000
namespace L2
open PySem PySem.Spec PyProof.Rows
section
variable {P : Program} {w : World} {K : PySem.W.Frag} {mg : Str → Option Value} {base : Heap}
end
section
variable {X : Cx} {C : Addr} {oa : Option Addr} {i k : Nat} {lf lf' : LF} {df df' : DF} {G : Gam} {e : Expr} {es : List Expr} {ds : List PyData} {pos pos2 pos3 apos : Pos} {x m : Str}
end
end L2
set_option maxRecDepth 100000
set_option maxHeartbeats 1000000
namespace L2
open PySem PySem.Spec PyProof.Rows
end L2
set_option maxRecDepth 100000
set_option maxHeartbeats 1000000
namespace L2
open PySem PySem.Spec PyProof.Rows
section
variable {X : Cx} {L : List Addr} {rs : List (Nat × Addr)} {G G1 : Gam} {c : Expr} {d : PyData} {i j m : Nat} {pos : Pos} {α : Type} {Iv : α → Hp → Prop} {T T1 : α}
end
end L2
set_option maxRecDepth 100000
set_option maxHeartbeats 1000000
set_option maxRecDepth 100000
set_option maxHeartbeats 1000000
namespace L2
open PySem PySem.Spec PyProof.Rows
section
variable {X : Cx} {L : List Addr} {I : Hp → Prop} {rs : List (Nat × Addr)} {G G' : Gam} {e c : Expr} {es : List Expr} {d : PyData} {ds ws : List PyData} {kb : Bool}
abbrev Sees (K : PySem.W.Frag) (L : List Addr) (I : Hp → Prop) (rs : List (Nat × Addr)) (G G' : Gam) : Prop := ∀ σ H, RZ K L I rs G σ H → SD K H σ G'
end
structure NR where
  a : Addr
  ls : List (Str × Addr)
abbrev NR.L (R : NR) : List Addr := R.a :: R.ls.map (·.2)
inductive NK (K : PySem.W.Frag) (ls : List (Str × Addr)) (Hb H : Hp) : List (Key × V) → DF → Prop where
  | nil : NK K ls Hb H [] []
  | lst {f : Str} {p : Addr} {us : List V} {ds : List PyData} {r : List (Key × V)} {df : DF} : (f, p) ∈ ls → H p = some (.lst us) → DVs K Hb us ds → noLs ds = true → NK K ls Hb H r df → NK K ls Hb H ((.inr f, .ref p) :: r) ((f, .list ds) :: df)
  | dat {f : Str} {v : V} {d : PyData} {r : List (Key × V)} {df : DF} : DV K Hb v d → noL d = true → NK K ls Hb H r df → NK K ls Hb H ((.inr f, v) :: r) ((f, d) :: df)
structure NzS (K : PySem.W.Frag) (R : NR) (df : DF) (Hb H : Hp) (kvs : List (Key × V)) : Prop where
  obj : H R.a = some (.dK kvs)
  few : df.length ≤ 40
  nda : R.L.Nodup
  ndl : (R.ls.map (·.1)).Nodup
  ndk : (df.map (·.1)).Nodup
  sub : ∀ q ∈ R.ls, q.1 ∈ df.map (·.1)
  own : ∀ q ∈ R.ls, ∃ us, H q.2 = some (.lst us)
  nk : NK K R.ls Hb H kvs df
def Nz (K : PySem.W.Frag) (R : NR) (df : DF) (H : Hp) : Prop := ∃ kvs, NzS K R df (lef R.L H) H kvs
def dfD (df : DF) : List (PyData × PyData) := df.map fun q => (.str q.1, q.2)
section
variable {K : PySem.W.Frag} {ls : List (Str × Addr)} {Hb Hb' H H' : Hp} {f : Str} {p : Addr} {d : PyData} {ds : List PyData}
theorem NK.mono (s : Same Hb Hb') (s2 : Same H H') : ∀ {kvs : List (Key × V)} {df : DF}, NK K ls Hb H kvs df → NK K ls Hb' H' kvs df
  | _, _, .nil => .nil
  | _, _, .lst h1 h2 h3 h4 t => .lst h1 (s2 _ _ h2) (h3.mono s) h4 (t.mono s s2)
  | _, _, .dat h1 h2 t => .dat (h1.mono s) h2 (t.mono s s2)
theorem NK.more {ls' : List (Str × Addr)} (h : ∀ q ∈ ls, q ∈ ls') : ∀ {kvs : List (Key × V)} {df : DF}, NK K ls Hb H kvs df → NK K ls' Hb H kvs df
  | _, _, .nil => .nil
  | _, _, .lst h1 h2 h3 h4 t => .lst (h _ h1) h2 h3 h4 (t.more h)
  | _, _, .dat h1 h2 t => .dat h1 h2 (t.more h)
theorem NK.app : ∀ {kvs kvs2 : List (Key × V)} {df df2 : DF}, NK K ls Hb H kvs df → NK K ls Hb H kvs2 df2 → NK K ls Hb H (kvs ++ kvs2) (df ++ df2)
  | _, _, _, _, .nil, t => t
  | _, _, _, _, .lst h1 h2 h3 h4 r, t => .lst h1 h2 h3 h4 (r.app t)
  | _, _, _, _, .dat h1 h2 r, t => .dat h1 h2 (r.app t)
theorem NK.keys : ∀ {kvs : List (Key × V)} {df : DF}, NK K ls Hb H kvs df → kvs.map (·.1) = df.map fun q => (.inr q.1 : Key)
  | _, _, .nil => rfl
  | _, _, .lst _ _ _ _ t => by rw [List.map_cons, List.map_cons, t.keys]
  | _, _, .dat _ _ t => by rw [List.map_cons, List.map_cons, t.keys]
theorem NK.length {kvs : List (Key × V)} {df : DF} (h : NK K ls Hb H kvs df) : kvs.length = df.length := by
  have := congrArg List.length h.keys
  rwa [List.length_map, List.length_map] at this
theorem NK.dvk (s : Same Hb H) : ∀ {kvs : List (Key × V)} {df : DF}, NK K ls Hb H kvs df → DVk K H kvs (dfD df)
  | _, _, .nil => .nil
  | _, _, .lst h1 h2 h3 h4 t => .cons (k := .inr _) (.lst (SqL.of h2) (h3.mono s)) (t.dvk s)
  | _, _, .dat h1 h2 t => .cons (k := .inr _) (h1.mono s) (t.dvk s)
theorem NK.get : ∀ {kvs : List (Key × V)} {df : DF}, NK K ls Hb H kvs df → (df.map (·.1)).Nodup → (f, PyData.list ds) ∈ df → ∃ p us, (f, p) ∈ ls ∧ valV kvs (.inr f) = some (.ref p) ∧ H p = some (.lst us) ∧ DVs K Hb us ds ∧ noLs ds = true
  | _, _, .nil, _, h => by cases h
  | _, _, .lst h1 h2 h3 h4 t, nd, h => by
    rw [List.map_cons, List.nodup_cons] at nd
    rcases List.mem_cons.mp h with e | h
    · cases e
      exact ⟨_, _, h1, valV_pos rfl, h2, h3, h4⟩
    · obtain ⟨p, us, k1, k2, k3⟩ := t.get nd.2 h
      refine ⟨p, us, k1, ?_, k3⟩
      rw [valV_neg (fun z => ?_)]
      · exact k2
      · exact nd.1 (by rw [show _ = f from Sum.inr.inj z]; exact List.mem_map_of_mem (f := (·.1)) h)
  | _, _, .dat h1 h2 t, nd, h => by
    rw [List.map_cons, List.nodup_cons] at nd
    rcases List.mem_cons.mp h with e | h
    · cases e
      cases h2
    · obtain ⟨p, us, k1, k2, k3⟩ := t.get nd.2 h
      refine ⟨p, us, k1, ?_, k3⟩
      rw [valV_neg (fun z => ?_)]
      · exact k2
      · exact nd.1 (by rw [show _ = f from Sum.inr.inj z]; exact List.mem_map_of_mem (f := (·.1)) h)
theorem NK.put {v : V} (hv : DV K Hb v d) (hn : noL d = true) : ∀ {kvs : List (Key × V)} {df : DF}, NK K ls Hb H kvs df → NK K ls Hb H (kvs.map fun kv => if kv.1 = .inr f then (kv.1, v) else kv) (upD f d df)
  | _, _, .nil => .nil
  | _, _, .lst (f := g) h1 h2 h3 h4 t => by
    have ih := t.put hv hn
    unfold upD at ih ⊢
    rw [List.map_cons, List.map_cons]
    by_cases e : g = f
    · rw [if_pos (show ((Sum.inr g : Key) = .inr f) from congrArg _ e), if_pos (show g = f from e)]
      exact .dat hv hn ih
    · rw [if_neg (show ¬ ((Sum.inr g : Key) = .inr f) from fun z => e (Sum.inr.inj z)), if_neg (show ¬ g = f from e)]
      exact .lst h1 h2 h3 h4 ih
  | _, _, .dat (f := g) h1 h2 t => by
    have ih := t.put hv hn
    unfold upD at ih ⊢
    rw [List.map_cons, List.map_cons]
    by_cases e : g = f
    · rw [if_pos (show ((Sum.inr g : Key) = .inr f) from congrArg _ e), if_pos (show g = f from e)]
      exact .dat hv hn ih
    · rw [if_neg (show ¬ ((Sum.inr g : Key) = .inr f) from fun z => e (Sum.inr.inj z)), if_neg (show ¬ g = f from e)]
      exact .dat h1 h2 ih
theorem nd_key {l : List (Str × Addr)} (h : (l.map (·.1)).Nodup) {f : Str} {p p' : Addr} (h1 : (f, p) ∈ l) (h2 : (f, p') ∈ l) : p = p' := by
  induction l with
  | nil => cases h1
  | cons y r ih =>
    rw [List.map_cons, List.nodup_cons] at h
    rcases List.mem_cons.mp h1 with e | h1 <;> rcases List.mem_cons.mp h2 with e' | h2
    · rw [← e'] at e; cases e; rfl
    · exact absurd (by rw [← e]; exact List.mem_map_of_mem (f := (·.1)) h2) h.1
    · exact absurd (by rw [← e']; exact List.mem_map_of_mem (f := (·.1)) h1) h.1
    · exact ih h.2 h1 h2
theorem nd_adr {l : List (Str × Addr)} (h : (l.map (·.2)).Nodup) {f g : Str} {p : Addr} (h1 : (f, p) ∈ l) (h2 : (g, p) ∈ l) : f = g := by
  induction l with
  | nil => cases h1
  | cons y r ih =>
    rw [List.map_cons, List.nodup_cons] at h
    rcases List.mem_cons.mp h1 with e | h1 <;> rcases List.mem_cons.mp h2 with e' | h2
    · rw [← e'] at e; cases e; rfl
    · exact absurd (by rw [← e]; exact List.mem_map_of_mem (f := (·.2)) h2) h.1
    · exact absurd (by rw [← e']; exact List.mem_map_of_mem (f := (·.2)) h1) h.1
    · exact ih h.2 h1 h2
theorem NK.wr {us : List V} {ds0 : List PyData} (nl : (ls.map (·.1)).Nodup) (na : (ls.map (·.2)).Nodup) (hp : (f, p) ∈ ls) (dv : DVs K Hb us ds) (hn : noLs ds = true) : ∀ {kvs : List (Key × V)} {df : DF}, NK K ls Hb H kvs df → (∀ q ∈ df, q.1 = f → q.2 = .list ds0) → NK K ls Hb (upd H p (.lst us)) kvs (upD f (.list ds) df)
  | _, _, .nil, _ => .nil
  | _, _, .lst (f := g) (p := p') h1 h2 h3 h4 t, hd => by
    have ih := t.wr nl na hp dv hn (fun q hq => hd q (List.mem_cons_of_mem _ hq))
    unfold upD at ih ⊢
    rw [List.map_cons]
    by_cases e : g = f
    · rw [if_pos (show g = f from e)]
      subst e
      have := nd_key nl h1 hp
      subst this
      exact .lst h1 upd_same dv hn ih
    · rw [if_neg (show ¬ g = f from e)]
      refine .lst h1 ?_ h3 h4 ih
      rw [upd_ne (fun z => e (nd_adr na h1 (by rw [z]; exact hp)))]
      exact h2
  | _, _, .dat (f := g) (d := d) h1 h2 t, hd => by
    have ih := t.wr nl na hp dv hn (fun q hq => hd q (List.mem_cons_of_mem _ hq))
    unfold upD at ih ⊢
    rw [List.map_cons]
    by_cases e : g = f
    · have := hd (g, d) List.mem_cons_self e
      rw [show d = .list ds0 from this] at h2
      cases h2
    · rw [if_neg (show ¬ g = f from e)]
      exact .dat h1 h2 ih
theorem NK.lef {L : List Addr} (hp : ∀ b ∈ L, ∀ xs, ¬ Rd Hb b (.tup xs)) : ∀ {kvs : List (Key × V)} {df : DF}, NK K ls Hb H kvs df → NK K ls (L2.lef L Hb) H kvs df
  | _, _, .nil => .nil
  | _, _, .lst h1 h2 h3 h4 t => .lst h1 h2 (DVs.lef hp h3 h4) h4 (t.lef hp)
  | _, _, .dat h1 h2 t => .dat (DV.lef hp h1 h2) h2 (t.lef hp)
end
section
variable {K : PySem.W.Frag} {R : NR} {df : DF} {Hb Hb' H H' : Hp} {kvs : List (Key × V)} {f : Str} {p : Addr} {d : PyData} {ds : List PyData}
theorem NzS.mono (t : NzS K R df Hb H kvs) (s : Same Hb Hb') (s2 : Same H H') : NzS K R df Hb' H' kvs :=
  ⟨s2 _ _ t.obj, t.few, t.nda, t.ndl, t.ndk, t.sub, fun q hq => let ⟨us, h⟩ := t.own q hq; ⟨us, s2 _ _ h⟩, t.nk.mono s s2⟩
theorem Nz.fo (i : Nz K R df H) : ∀ b ∈ R.L, Fq H R.L b := fun b hb => by
  obtain ⟨kvs, t⟩ := i
  rcases List.mem_cons.mp hb with e | e
  · exact .inr ⟨kvs, by rw [e]; exact t.obj⟩
  · obtain ⟨q, hq, rfl⟩ := List.mem_map.mp e
    exact .inl (.inl (t.own q hq))
theorem NK.joinL {L : List Addr} {ls : List (Str × Addr)} (hl : ∀ q ∈ ls, q.2 ∈ L) (s : Same Hb Hb') : ∀ {kvs : List (Key × V)} {df : DF}, NK K ls Hb H kvs df → NK K ls Hb' (joinH L H H') kvs df
  | _, _, .nil => .nil
  | _, _, .lst h1 h2 h3 h4 t => .lst h1 (by rw [joinH_in (hl _ h1)]; exact h2) (h3.mono s) h4 (t.joinL hl s)
  | _, _, .dat h1 h2 t => .dat (h1.mono s) h2 (t.joinL hl s)
theorem Nz.join (i : Nz K R df H) (n : ∀ b ∈ R.L, H' b = none) (s : Same (lef R.L H) H') : Nz K R df (joinH R.L H H') := by
  obtain ⟨kvs, t⟩ := i
  refine ⟨kvs, ?_⟩
  rw [lef_joinH n]
  exact ⟨by rw [joinH_in List.mem_cons_self]; exact t.obj, t.few, t.nda, t.ndl, t.ndk, t.sub, fun q hq => by rw [joinH_in (List.mem_cons_of_mem _ (List.mem_map_of_mem hq))]; exact t.own q hq, t.nk.joinL (fun q hq => List.mem_cons_of_mem _ (List.mem_map_of_mem hq)) s⟩
theorem NzS.dv {L : List Addr} (t : NzS K R df (lef L H) H kvs) : DV K H (.ref R.a) (.dict (dfD df)) := .dct t.obj (t.nk.dvk lef_same)
theorem NzS.put {us : List V} (t : NzS K R df (lef R.L H) H kvs) (hp : (f, p) ∈ R.ls) {ds0 : List PyData} (hf : (f, PyData.list ds0) ∈ df) (dv : DVs K (lef R.L H) us ds) (hn : noLs ds = true) : Nz K R (upD f (.list ds) df) (upd H p (.lst us)) := by
  have hpL : p ∈ R.L := List.mem_cons_of_mem _ (List.mem_map_of_mem (f := (·.2)) hp)
  have eL : lef R.L (upd H p (.lst us)) = lef R.L H := lef_upd hpL
  have npa : R.a ≠ p := fun z => (List.nodup_cons.mp t.nda).1 (by rw [z]; exact List.mem_map_of_mem (f := (·.2)) hp)
  refine ⟨kvs, ?_⟩
  rw [eL]
  refine ⟨by rw [upd_ne npa]; exact t.obj, by rw [show (upD f (.list ds) df).length = df.length from List.length_map _]; exact t.few, t.nda, t.ndl, by rw [upD_keys]; exact t.ndk, by rw [upD_keys]; exact t.sub, fun z hz => ?_, t.nk.wr t.ndl (List.nodup_cons.mp t.nda).2 hp dv hn (ds0 := ds0) fun q hq e => ?_⟩
  · by_cases e : z.2 = p
    · rw [e]; exact ⟨us, upd_same⟩
    · rw [upd_ne e]; exact t.own z hz
  · have : ∀ {l : DF}, (l.map (·.1)).Nodup → (f, PyData.list ds0) ∈ l → q ∈ l → q.2 = .list ds0 := by
      intro l
      induction l with
      | nil => intro _ h; cases h
      | cons y r ih =>
        intro hn h1 h2
        rw [List.map_cons, List.nodup_cons] at hn
        rcases List.mem_cons.mp h1 with e1 | h1 <;> rcases List.mem_cons.mp h2 with e2 | h2
        · rw [e2, ← e1]
        · exact absurd (by rw [← e1]; show f ∈ _; rw [← e]; exact List.mem_map_of_mem (f := (·.1)) h2) hn.1
        · exact absurd (by rw [← e2, e]; exact List.mem_map_of_mem (f := (·.1)) h1) hn.1
        · exact ih hn.2 h1 h2
    exact this t.ndk hf hq
end
section
variable {X : Cx} {R : NR} {df : DF} {rs : List (Nat × Addr)} {G G1 G2 G' : Gam} {e c a b : Expr} {es : List Expr} {d : PyData} {ds ws : List PyData} {k i j : Nat} {pos pos' pos2 pos3 pos4 apos p1 : Pos} {x f m : Str} {p : Addr}
end
end L2
set_option maxRecDepth 100000
set_option maxHeartbeats 1000000
namespace L2
open PySem PySem.Spec PyProof.Rows
section
variable {X : Cx} {R : NR} {df : DF} {rs : List (Nat × Addr)} {G G1 G2 G' : Gam} {e c a b : Expr} {es : List Expr} {d : PyData} {ds ws : List PyData} {k i j : Nat} {pos pos' pos2 pos3 pos4 apos p1 : Pos} {x y f m : Str} {p : Addr}
end
section
variable {P : Program} {w : World} {K : PySem.W.Frag} {mg : Str → Option Value} {base : Heap}
end
section
variable {X : Cx} {R : NR} {df df' df2 : DF} {rs : List (Nat × Addr)} {G G1 G2 G' : Gam} {e c a b : Expr} {es : List Expr} {d : PyData} {ds ws : List PyData} {k i j : Nat} {pos pos' pos2 pos3 pos4 apos p1 : Pos} {x y f m : Str} {p : Addr}
end
end L2
set_option maxRecDepth 100000
set_option maxHeartbeats 1000000
namespace L2
open PySem PySem.Spec PyProof.Rows
section
variable {X : Cx} {pins : List (Addr × Obj)} {σ : St} {H : Hp} {s : Shared} {a b : Addr} {kvs more : List (Key × V)} {A : Around} {E : Value → Shared → Prop}
end
structure DBn (K : PySem.W.Frag) (H : Hp) (ls : List (Str × Addr)) (df : DF) (kvs : List (Key × V)) (H' : Hp) : Prop where
  same : Same H H'
  fre : ∀ q ∈ ls, H q.2 = none
  nda : (ls.map (·.2)).Nodup
  ndl : (ls.map (·.1)).Nodup
  sub : ∀ q ∈ ls, q.1 ∈ df.map (·.1)
  own : ∀ q ∈ ls, ∃ us, H' q.2 = some (.lst us)
  nk : NK K ls H' H' kvs df
section
variable {X : Cx} {pos : Pos} {G : Gam} {keys : List (Option Expr)} {vals : List Expr} {df : DF} {k v : Expr} {f : Str} {ws : List PyData} {d : PyData}
end
theorem noTup {H : Hp} {b : Addr} {o : HO} (e : H b = some o) (h1 : ∀ ys, o ≠ .tup ys) (h2 : ∀ q u, o ≠ .frz q u) (xs : List V) : ¬ Rd H b (.tup xs) := fun r => by
  rcases r with r | ⟨q, r⟩
  · rw [e] at r; exact h1 _ (Option.some.inj r)
  · rw [e] at r; exact h2 _ _ (Option.some.inj r)
theorem none_of {H H' : Hp} {b : Addr} (s : Same H H') (h : H' b = none) : H b = none := by
  cases e : H b with
  | none => rfl
  | some o => rw [s _ _ e] at h; cases h
section
variable {X : Cx} {pos pos' pos2 p1 p4 apos cpos : Pos} {G : Gam} {keys keys2 : List (Option Expr)} {vals vals2 : List Expr} {df df2 : DF} {xt : Str} {i : Nat} {sts : List Stmt}
end
end L2
set_option maxRecDepth 100000
set_option maxHeartbeats 1000000
namespace L2
open PySem PySem.Spec PyProof.Rows
theorem lef_app {L1 L2' : List Addr} {H : Hp} : lef (L1 ++ L2') H = lef L1 (lef L2' H) := by
  funext b
  by_cases h1 : b ∈ L1
  · rw [lef_in h1, lef_in (List.mem_append_left _ h1)]
  · rw [lef_ne h1]
    by_cases h2 : b ∈ L2'
    · rw [lef_in h2, lef_in (List.mem_append_right _ h2)]
    · rw [lef_ne h2, lef_ne (fun z => (List.mem_append.mp z).elim h1 h2)]
theorem lef_swap {L1 L2' : List Addr} {H : Hp} : lef L1 (lef L2' H) = lef L2' (lef L1 H) := by
  funext b
  by_cases h1 : b ∈ L1
  · rw [lef_in h1]
    by_cases h2 : b ∈ L2'
    · rw [lef_in h2]
    · rw [lef_ne h2, lef_in h1]
  · rw [lef_ne h1]
    by_cases h2 : b ∈ L2'
    · rw [lef_in h2, lef_in h2]
    · rw [lef_ne h2, lef_ne h2, lef_ne h1]
structure ZF (L : List Addr) (I : Hp → Prop) : Prop where
  fo : ∀ H, I H → ∀ b ∈ L, Fq H L b
  join : ∀ H H', I H → (∀ b ∈ L, H' b = none) → Same (lef L H) H' → I (joinH L H H')
theorem Fq.wide {H : Hp} {L L' : List Addr} {b : Addr} (f : Fq H L b) (h : ∀ c ∈ L, c ∈ L') : Fq H L' b := by
  rcases f with (⟨xs, e⟩ | ⟨C, dx, fs, e, h1⟩ | ⟨a, C, fs, e, h1, ea⟩) | ⟨kvs, e⟩
  · exact .inl (.inl ⟨xs, e⟩)
  · exact .inl (.inr (.inl ⟨C, dx, fs, e, h _ h1⟩))
  · exact .inl (.inr (.inr ⟨a, C, fs, e, h _ h1, ea⟩))
  · exact .inr ⟨kvs, e⟩
section
variable {X : Cx} {L1 L2' : List Addr} {I1 I1' I2 I2' : Hp → Prop} {rs rs1 : List (Nat × Addr)} {G G' : Gam} {e c : Expr} {es : List Expr} {d : PyData} {ds : List PyData}
end
theorem NK.lefH {K : PySem.W.Frag} {ls : List (Str × Addr)} {Hb H : Hp} {L : List Addr} (h : ∀ q ∈ ls, q.2 ∉ L) : ∀ {kvs : List (Key × V)} {df : DF}, NK K ls Hb H kvs df → NK K ls Hb (L2.lef L H) kvs df
  | _, _, .nil => .nil
  | _, _, .lst h1 h2 h3 h4 t => .lst h1 (by rw [lef_ne (h _ h1)]; exact h2) h3 h4 (t.lefH h)
  | _, _, .dat h1 h2 t => .dat h1 h2 (t.lefH h)
theorem Nz.apart {K : PySem.W.Frag} {R : NR} {df : DF} {H : Hp} {L : List Addr} (i : Nz K R df H) (dj : ∀ b ∈ L, b ∉ R.L) (nt : ∀ b ∈ L, ∀ xs, ¬ Rd H b (.tup xs)) : Nz K R df (lef L H) := by
  obtain ⟨kvs, t⟩ := i
  have na : ∀ q ∈ R.ls, q.2 ∉ L := fun q hq z => dj _ z (List.mem_cons_of_mem _ (List.mem_map_of_mem hq))
  refine ⟨kvs, by rw [lef_ne (fun z => dj _ z List.mem_cons_self)]; exact t.obj, t.few, t.nda, t.ndl, t.ndk, t.sub, fun q hq => by rw [lef_ne (na q hq)]; exact t.own q hq, ?_⟩
  rw [lef_swap]
  refine (t.nk.lef fun b hb xs r => nt b hb xs ?_).lefH na
  rcases r with r | ⟨q, r⟩
  · exact .inl (lef_same _ _ r)
  · exact .inr ⟨q, lef_same _ _ r⟩
section
variable {X : Cx} {L : List Addr} {I : Hp → Prop} {rs : List (Nat × Addr)} {G G1 : Gam} {c e : Expr} {d : PyData} {i j m : Nat} {pos p1 p4 : Pos} {y : Str} {df : DF} {sts : List Stmt} {α : Type} {Iv : α → Hp → Prop} {T T1 : α}
end
end L2
set_option maxRecDepth 100000
set_option maxHeartbeats 1000000
namespace L2
open PySem PySem.Spec PyProof.Rows
section
variable {X : Cx} {L : List Addr} {I I1 : Hp → Prop} {rs : List (Nat × Addr)} {G : Gam} {e tg a b k v : Expr} {pos p1 : Pos} {is : List Nat} {ds : List PyData}
end
end L2
set_option maxRecDepth 100000
set_option maxHeartbeats 1000000
namespace L2
open PySem PySem.Spec PyProof.Rows
def Ends.fr (D : Ends) (L : List Addr) (H : Hp) : Ends := ⟨fun σ' H' => (∀ b ∈ L, H' b = none) → D.nx σ' (joinH L H H'), fun v H' => (∀ b ∈ L, H' b = none) → D.rt v (joinH L H H'), fun σ' H' => (∀ b ∈ L, H' b = none) → D.bk σ' (joinH L H H'), fun σ' H' => (∀ b ∈ L, H' b = none) → D.ct σ' (joinH L H H')⟩
theorem SP.fr {X : Cx} {pins : List (Addr × Obj)} {σ : St} {H : Hp} {s : Shared} {L : List Addr} {D : Ends} (I : Inv X pins σ H s) (hL : ∀ b ∈ L, Fq H L b) {ps : List (Addr × Obj)} (e : ps.map (·.1) = L) (J0 : Inv X (ps ++ pins) σ (lef L H) s) {f : Flow} {s' : Shared} (h : SP X (ps ++ pins) (D.fr L H) f s') : SP X pins D f s' := by
  cases f with
  | next =>
    obtain ⟨σ', H', J, q⟩ := h
    obtain ⟨n, I1⟩ := I.regainQ hL e J0 J
    exact ⟨σ', _, I1, q n⟩
  | brk =>
    obtain ⟨σ', H', J, q⟩ := h
    obtain ⟨n, I1⟩ := I.regainQ hL e J0 J
    exact ⟨σ', _, I1, q n⟩
  | cont =>
    obtain ⟨σ', H', J, q⟩ := h
    obtain ⟨n, I1⟩ := I.regainQ hL e J0 J
    exact ⟨σ', _, I1, q n⟩
  | ret u =>
    obtain ⟨v, σ', H', J, r, q⟩ := h
    obtain ⟨n, I1⟩ := I.regainQ hL e J0 J
    exact ⟨v, σ', _, I1, r, q n⟩
section
variable {X : Cx} {L1 L2' : List Addr} {I1 I1' I2 I2' : Hp → Prop} {rs : List (Nat × Addr)} {G G' : Gam} {st : Stmt}
end
section
variable {X : Cx} {L : List Addr} {I I1 : Hp → Prop} {rs : List (Nat × Addr)} {G G1 G' : Gam} {e a b c : Expr} {d : PyData} {ws S : List PyData} {i j k : Nat} {p : Addr} {pos pos' pos2 pos3 : Pos} {x y : Str} {st : Stmt} {sts : List Stmt}
theorem Kz.fo {K : PySem.W.Frag} {H : Hp} (i : Kz K p S H) : ∀ b ∈ [p], Fq H [p] b := fun b hb => by
  obtain ⟨us, h, _⟩ := i
  exact .inl (.inl ⟨us, by rw [List.mem_singleton.mp hb]; exact h⟩)
end
def zTI (K : PySem.W.Frag) (L : List Addr) (I : Hp → Prop) (rs : List (Nat × Addr)) (G : Gam) (k : Bool) (I1 : Hp → Prop) : TT := fun σ H Q => RZ K L I rs G σ H ∧ ∀ H', I1 H' → Same (lef L H) (lef L H') → Q k H'
abbrev ZTI (X : Cx) (L : List Addr) (I : Hp → Prop) (rs : List (Nat × Addr)) (G : Gam) (e : Expr) (k : Bool) (I1 : Hp → Prop) : Prop := PT X e (zTI X.K L I rs G k I1)
section
variable {X : Cx} {L : List Addr} {I I1 I2 : Hp → Prop} {rs : List (Nat × Addr)} {G G1 : Gam} {a b c e : Expr} {rest : List Expr} {d da db : PyData} {k k' : Bool} {pos : Pos}
theorem zti_of (h : ZT X L I rs G e k) : ZTI X L I rs G e k I := h.imp fun σ H Q ⟨r, q⟩ => ⟨r, fun H' r' s' => q H' r'.2.1 s'⟩
theorem zn_ifI {A B : List Stmt} (h : ZTI X L I rs G c k I1) (h1 : k = true → PSs X A (zN X.K L I1 rs G G1 I2)) (h2 : k = false → PSs X B (zN X.K L I1 rs G G1 I2)) : PS X (.If c A B pos) (zN X.K L I rs G G1 I2) := by
  cases k with
  | true => exact (ps_if h (h1 rfl) (pss_never (sts := B))).imp fun D σ H ⟨r, q⟩ => ⟨r, fun H' i' s' => iteT ⟨r.next i' s', fun σ2 H2 r2 s2 => q σ2 H2 r2 (s'.trans s2)⟩⟩
  | false => exact (ps_if h (pss_never (sts := A)) (h2 rfl)).imp fun D σ H ⟨r, q⟩ => ⟨r, fun H' i' s' => iteF ⟨r.next i' s', fun σ2 H2 r2 s2 => q σ2 H2 r2 (s'.trans s2)⟩⟩
end
end L2
set_option maxRecDepth 100000
set_option maxHeartbeats 1000000
namespace L2
open PySem PySem.Spec PyProof.Rows
section
variable {X : Cx} {CX : CXT} {C : Addr} {m : Str} {f : Addr} {fd : FuncData} {ps : List Str} {sp : Sp} {k : Nat} {dvs : List V} {ds : List Value} {E : XK} {o e : Expr} {es : List Expr} {ta : TE} {t : TA} {pos apos : Pos}
end
section
variable {X : Cx} {R : OR} {lf lf' : LF} {df df' : DF} {L2' : List Addr} {I2 : Hp → Prop} {rs : List (Nat × Addr)} {G G1 : Gam} {e c it : Expr} {es : List Expr} {ds : List PyData} {d : PyData} {i j k : Nat} {pos pos2 pos3 apos p1 p4 : Pos} {x m y : Str} {sts : List Stmt} {L : List Addr} {I : Hp → Prop} {C : Addr} {oa : Option Addr} {dn : DF}
end
end L2
set_option maxRecDepth 100000
set_option maxHeartbeats 1000000
namespace L2
open PySem PySem.Spec PyProof.Rows
section
variable {X : Cx} {L : List Addr} {rs : List (Nat × Addr)} {G : Gam} {c : Expr} {d : PyData} {j : Nat} {pos : Pos} {α : Type} {Iv : α → Hp → Prop} {T : α} {I I1 : Hp → Prop} {k : Bool}
end
end L2
set_option maxRecDepth 100000
set_option maxHeartbeats 1000000
namespace L2
open PySem PySem.Spec PyProof.Rows
section
variable {X : Cx} {C a : Addr} {L2' : List Addr} {I2 I2' I2b : Hp → Prop} {rs : List (Nat × Addr)} {G G' G1 : Gam} {lf lf' lf1 : LF} {df df' df1 : DF} {d : PyData} {c e : Expr} {es : List Expr} {ds : List PyData} {i k : Nat} {pos pos2 pos3 apos : Pos} {x m : Str} {st : Stmt} {sts : List Stmt}
end
end L2
set_option maxRecDepth 100000
set_option maxHeartbeats 1000000
namespace L2
open PySem PySem.Spec PyProof.Rows
section
variable {P : Program} {w : World} {K : PySem.W.Frag} {mg : Str → Option Value} {base : Heap}
end
section
variable {X : Cx} {G : Gam} {C : Addr} {k : Nat} {m x : Str} {fls : List (PyData × PyData)} {ws : List PyData} {pos pos2 apos : Pos}
end
section
variable {X : Cx} {L : List Addr} {rs : List (Nat × Addr)} {G G1 : Gam} {c : Expr} {j : Nat} {pos : Pos} {α : Type} {Iv : α → Hp → Prop} {T T1 : α}
end
inductive LsK (K : PySem.W.Frag) (Hb H : Hp) : List Addr → List (List PyData) → Prop where
  | nil : LsK K Hb H [] []
  | cons {p : Addr} {us : List V} {ds : List PyData} {ps : List Addr} {dss : List (List PyData)} : H p = some (.lst us) → DVs K Hb us ds → noLs ds = true → LsK K Hb H ps dss → LsK K Hb H (p :: ps) (ds :: dss)
theorem LsK.mono {K : PySem.W.Frag} {Hb Hb' H H' : Hp} (s : Same Hb Hb') (s2 : Same H H') : ∀ {ps : List Addr} {dss : List (List PyData)}, LsK K Hb H ps dss → LsK K Hb' H' ps dss
  | _, _, .nil => .nil
  | _, _, .cons h1 h2 h3 t => .cons (s2 _ _ h1) (h2.mono s) h3 (t.mono s s2)
theorem LsK.get {K : PySem.W.Frag} {Hb H : Hp} : ∀ {ps : List Addr} {dss : List (List PyData)}, LsK K Hb H ps dss → ∀ p ∈ ps, ∃ us ds, ds ∈ dss ∧ H p = some (.lst us) ∧ DVs K Hb us ds ∧ noLs ds = true
  | _, _, .nil, p, h => by cases h
  | _, _, .cons h1 h2 h3 t, p, h => by
    rcases List.mem_cons.mp h with rfl | h
    · exact ⟨_, _, List.mem_cons_self, h1, h2, h3⟩
    · obtain ⟨us, ds, a, b⟩ := t.get p h
      exact ⟨us, ds, List.mem_cons_of_mem _ a, b⟩
section
variable {X : Cx} {G G' : Gam} {e : Expr} {es : List Expr} {ws : List PyData} {wss : List (List PyData)} {L : List Addr} {I : Hp → Prop} {rs : List (Nat × Addr)} {j k : Nat} {f x : Str} {pos pos2 pos3 p1 p4 p5 : Pos}
end
end L2
set_option maxRecDepth 100000
set_option maxHeartbeats 1000000
namespace L2
open PySem PySem.Spec PyProof.Rows
section
variable {K : PySem.W.Frag} {Hb Hb' H H' : Hp} {p : Addr} {us : List V} {S' : List PyData}
theorem LsK.length : ∀ {ps : List Addr} {dss : List (List PyData)}, LsK K Hb H ps dss → ps.length = dss.length
  | _, _, .nil => rfl
  | _, _, .cons _ _ _ t => by rw [List.length_cons, List.length_cons, t.length]
theorem LsK.keep (s : Same Hb Hb') : ∀ {ps : List Addr} {dss : List (List PyData)}, LsK K Hb H ps dss → (∀ b ∈ ps, ∀ o, H b = some o → H' b = some o) → LsK K Hb' H' ps dss
  | _, _, .nil, _ => .nil
  | _, _, .cons h1 h2 h3 t, h => .cons (h _ List.mem_cons_self _ h1) (h2.mono s) h3 (t.keep s fun b hb => h b (List.mem_cons_of_mem _ hb))
theorem LsK.at : ∀ {ps : List Addr} {dss : List (List PyData)} {i : Nat}, LsK K Hb H ps dss → ps[i]? = some p → ∃ ds us, dss[i]? = some ds ∧ H p = some (.lst us) ∧ DVs K Hb us ds ∧ noLs ds = true
  | _, _, _, .nil, h => by cases h
  | _, _, 0, .cons h1 h2 h3 t, h => by
    have := Option.some.inj h
    subst this
    exact ⟨_, _, rfl, h1, h2, h3⟩
  | _, _, i + 1, .cons h1 h2 h3 t, h => t.at (i := i) h
theorem LsK.put (s : Same Hb Hb') (oth : ∀ b, b ≠ p → ∀ o, H b = some o → H' b = some o) (e : H' p = some (.lst us)) (dv : DVs K Hb' us S') (hn : noLs S' = true) : ∀ {ps : List Addr} {dss : List (List PyData)} {i : Nat}, LsK K Hb H ps dss → ps.Nodup → ps[i]? = some p → LsK K Hb' H' ps (dss.set i S')
  | _, _, _, .nil, _, h => by cases h
  | _, _, 0, .cons h1 h2 h3 t, nd, h => by
    have := Option.some.inj h
    subst this
    exact .cons e dv hn (t.keep s fun b hb => oth b fun z => (List.nodup_cons.mp nd).1 (by rw [← z]; exact hb))
  | _, _, i + 1, .cons h1 h2 h3 t, nd, h => by
    refine .cons (oth _ (fun z => ?_) _ h1) (h2.mono s) h3 (t.put s oth e dv hn (List.nodup_cons.mp nd).2 (i := i) h)
    subst z
    exact (List.nodup_cons.mp nd).1 (List.mem_of_getElem? (i := i) h)
theorem LsK.lef {L : List Addr} (hp : ∀ b ∈ L, ∀ xs, ¬ Rd Hb b (.tup xs)) : ∀ {ps : List Addr} {dss : List (List PyData)}, LsK K Hb H ps dss → LsK K (L2.lef L Hb) H ps dss
  | _, _, .nil => .nil
  | _, _, .cons h1 h2 h3 t => .cons h1 (DVs.lef hp h2 h3) h3 (t.lef hp)
theorem LsK.dvs (s : Same Hb H) : ∀ {ps : List Addr} {dss : List (List PyData)}, LsK K Hb H ps dss → DVs K H (ps.map V.ref) (dss.map PyData.list)
  | _, _, .nil => .nil
  | _, _, .cons h1 h2 h3 t => .cons (.lst (SqL.of h1) (h2.mono s)) (t.dvs s)
end
def Hz (K : PySem.W.Frag) (h : Addr) (ps : List Addr) (dss : List (List PyData)) (H : Hp) : Prop := H h = some (.lst (ps.map V.ref)) ∧ (h :: ps).Nodup ∧ LsK K (lef (h :: ps) H) H ps dss
section
variable {K : PySem.W.Frag} {h : Addr} {ps : List Addr} {dss : List (List PyData)} {H H' : Hp}
theorem Hz.own (i : Hz K h ps dss H) : ∀ b ∈ h :: ps, ∃ us, H b = some (.lst us) := fun b hb => by
  rcases List.mem_cons.mp hb with rfl | hb
  · exact ⟨_, i.1⟩
  · obtain ⟨us, _, _, e, _⟩ := i.2.2.get b hb
    exact ⟨us, e⟩
end
section
variable {X : Cx} {L L1 : List Addr} {I I1 I2 : Hp → Prop} {rs : List (Nat × Addr)} {G G' : Gam} {e : Expr} {es : List Expr} {d : PyData} {ds S : List PyData} {wss : List (List PyData)} {i j k : Nat} {p : Addr} {pos pos' pos2 pos3 apos p1 p2 p3 p4 p5 : Pos} {x y f : Str} {sts : List Stmt} {C : Addr} {lf : LF} {df : DF}
theorem Oz.apart {K : PySem.W.Frag} {R : OR} {lf : LF} {df : DF} {H : Hp} {L : List Addr} (i : Oz K R lf df H) (dj : ∀ b ∈ L, b ∉ R.L) (nt : ∀ b ∈ L, ∀ xs, ¬ Rd H b (.tup xs)) (hn : ∀ q ∈ df, noL q.2 = true) : Oz K R lf df (lef L H) := by
  obtain ⟨fs, t⟩ := i
  have na : ∀ b ∈ R.L, b ∉ L := fun b hb z => dj b z hb
  have nt2 : ∀ b ∈ L, ∀ xs, ¬ Rd (lef R.L H) b (.tup xs) := fun b hb xs r => by
    refine nt b hb xs ?_
    rcases r with r | ⟨q, r⟩
    · exact .inl (lef_same _ _ r)
    · exact .inr ⟨q, lef_same _ _ r⟩
  refine ⟨fs, by rw [lef_ne (na _ List.mem_cons_self)]; exact t.obj, by rw [lef_ne (na _ (List.mem_cons_of_mem _ List.mem_cons_self))]; exact t.own1, t.few, t.nam, t.nda, t.apart, fun q hq => ?_, fun q hq => ?_, fun q hq => ?_⟩
  · rw [lef_ne (na _ (List.mem_cons_of_mem _ (List.mem_cons_of_mem _ (List.mem_map_of_mem hq))))]
    exact t.own q hq
  · obtain ⟨p, us, h1, h2, h3, h4, h5⟩ := t.lst q hq
    refine ⟨p, us, h1, h2, by rw [lef_ne (na _ (List.mem_cons_of_mem _ (List.mem_cons_of_mem _ (List.mem_map_of_mem (f := (·.2)) h1))))]; exact h3, ?_, h5⟩
    rw [lef_swap]
    exact DVs.lef nt2 h4 h5
  · obtain ⟨v, h1, h2⟩ := t.dat q hq
    refine ⟨v, h1, ?_⟩
    rw [lef_swap]
    exact DV.lef nt2 h2 (hn q hq)
end
section
variable {K : PySem.W.Frag} {L0 : List Addr} {I0 : Hp → Prop} {R : OR} {lf : LF} {dm : DF} {N : NR} {df : DF} {p : Addr} {S : List PyData} {rs : List (Nat × Addr)} {G : Gam} {i j l : Nat}
end
end L2
set_option maxRecDepth 100000
set_option maxHeartbeats 1000000
namespace L2
open PySem PySem.Spec PyProof.Rows
abbrev Zt := List Addr × (Hp → Prop)
abbrev Dj (A B : List Addr) : Prop := ∀ b ∈ A, b ∉ B
structure Gd (it : Zt) : Prop where
  ok : ZOk it.1 it.2
  ap : ∀ {H : Hp} {M : List Addr}, it.2 H → Dj M it.1 → (∀ b ∈ M, ∀ xs, ¬ Rd H b (.tup xs)) → it.2 (lef M H)
  fr : ZF it.1 it.2
abbrev Gds (its : List Zt) : Prop := ∀ it ∈ its, Gd it
def LZ (its : List Zt) : List Addr := (its.map (·.1)).flatten
def TZ (its : List Zt) (H : Hp) : Prop := (its.map (·.1)).Pairwise Dj ∧ ∀ it ∈ its, it.2 H
theorem mem_LZ {its : List Zt} {b : Addr} : b ∈ LZ its ↔ ∃ it ∈ its, b ∈ it.1 := by
  unfold LZ
  rw [List.mem_flatten]
  constructor
  · rintro ⟨l, hl, hb⟩
    obtain ⟨it, h, rfl⟩ := List.mem_map.mp hl
    exact ⟨it, h, hb⟩
  · rintro ⟨it, h, hb⟩
    exact ⟨it.1, List.mem_map_of_mem h, hb⟩
theorem tz_ok {its : List Zt} (g : ∀ it ∈ its, ZOk it.1 it.2) : ZOk (LZ its) (TZ its) where
  step := fun ⟨p, i⟩ s => ⟨p, fun it h => (g it h).step (i it h) s⟩
  notup := fun ⟨p, i⟩ b hb xs => by
    obtain ⟨it, h, hb⟩ := mem_LZ.mp hb
    exact (g it h).notup (i it h) b hb xs
  free := fun ⟨p, i⟩ hp hm => by
    obtain ⟨it, h, hb⟩ := mem_LZ.mp hm
    exact (g it h).free (i it h) hp hb
theorem Gds.ok {its : List Zt} (g : Gds its) : ZOk (LZ its) (TZ its) := tz_ok fun it h => (g it h).ok
theorem Gds.fr {its : List Zt} (g : Gds its) : ZF (LZ its) (TZ its) where
  fo := fun H ⟨p, i⟩ b hb => by
    obtain ⟨it, h, hb⟩ := mem_LZ.mp hb
    exact ((g it h).fr.fo H (i it h) b hb).wide fun c hc => mem_LZ.mpr ⟨it, h, hc⟩
  join := fun H H' t n s => ⟨t.1, fun it h => by
    have i := t.2 it h
    have hO : ∀ b, b ∈ (LZ its).filter (fun b => decide (b ∉ it.1)) ↔ b ∈ LZ its ∧ b ∉ it.1 := fun b => by rw [List.mem_filter, decide_eq_true_iff]
    have a1 := (g it h).ap (M := (LZ its).filter fun b => decide (b ∉ it.1)) i (fun b hb => ((hO b).mp hb).2) fun b hb xs => g.ok.notup t b ((hO b).mp hb).1 xs
    have a2 := (g it h).fr.join _ H' a1 (fun b hb => n b (mem_LZ.mpr ⟨it, h, hb⟩)) (by
      rw [← lef_app]
      refine (lef_sub fun b hb => ?_).trans s
      by_cases hi : b ∈ it.1
      · exact List.mem_append_left _ hi
      · exact List.mem_append_right _ ((hO b).mpr ⟨hb, hi⟩))
    refine (g it h).ok.step a2 fun b o e => ?_
    by_cases hi : b ∈ it.1
    · rw [joinH_in hi] at e
      rw [joinH_in (mem_LZ.mpr ⟨it, h, hi⟩)]
      exact lef_same _ _ e
    · rw [joinH_ne hi] at e
      have nl : b ∉ LZ its := fun z => by rw [n b z] at e; cases e
      rw [joinH_ne nl]
      exact e⟩
theorem map_mid {A B : List Zt} {it : Zt} : (A ++ it :: B).map (·.1) = A.map (·.1) ++ it.1 :: B.map (·.1) := by rw [List.map_append, List.map_cons]
theorem dj_sym {A B : List Addr} (h : Dj A B) : Dj B A := fun b hb ha => h b ha hb
theorem mem_mid {A B : List Zt} {it z : Zt} : z ∈ A ++ it :: B ↔ z = it ∨ z ∈ A ++ B := by
  simp only [List.mem_append, List.mem_cons]
  constructor
  · rintro (h | rfl | h)
    · exact .inr (.inl h)
    · exact .inl rfl
    · exact .inr (.inr h)
  · rintro (rfl | h | h)
    · exact .inr (.inl rfl)
    · exact .inl h
    · exact .inr (.inr h)
theorem TZ.mid {A B : List Zt} {it : Zt} {H : Hp} : TZ (A ++ it :: B) H ↔ (∀ z ∈ A ++ B, Dj it.1 z.1) ∧ it.2 H ∧ TZ (A ++ B) H := by
  unfold TZ
  rw [map_mid, List.pairwise_middle (fun {x y} h => dj_sym h), List.pairwise_cons, ← List.map_append]
  constructor
  · rintro ⟨⟨h1, h2⟩, h3⟩
    exact ⟨fun z hz => h1 _ (List.mem_map_of_mem hz), h3 _ (mem_mid.mpr (.inl rfl)), h2, fun z hz => h3 z (mem_mid.mpr (.inr hz))⟩
  · rintro ⟨h1, h2, h3, h4⟩
    refine ⟨⟨fun l hl => ?_, h3⟩, fun z hz => ?_⟩
    · obtain ⟨z, hz, rfl⟩ := List.mem_map.mp hl
      exact h1 z hz
    · rcases mem_mid.mp hz with rfl | hz
      · exact h2
      · exact h4 z hz
theorem LZ_mid {A B : List Zt} {it it' : Zt} (e : it.1 = it'.1) : LZ (A ++ it :: B) = LZ (A ++ it' :: B) := by
  unfold LZ
  rw [map_mid, map_mid, e]
section
variable {X : Cx} {A B : List Zt} {L : List Addr} {I I' : Hp → Prop} {rs rs1 : List (Nat × Addr)} {G G' : Gam} {e : Expr} {d : PyData} {st : Stmt}
end
def Rf (p : Addr) (us : List V) (H : Hp) : Prop := H p = some (.lst us)
theorem gd_R {p : Addr} {us : List V} : Gd ([p], Rf p us) where
  ok := ⟨fun h s => s _ _ h, fun h b hb xs => by rw [List.mem_singleton.mp hb]; exact noTup h (fun _ z => by cases z) (fun _ _ z => by cases z) xs, fun h hp hm => by rw [List.mem_singleton.mp hm, show _ = _ from h] at hp; cases hp⟩
  ap := fun h dj nt => by
    show lef _ _ p = _
    rw [lef_ne fun z => dj p z List.mem_cons_self]
    exact h
  fr := ⟨fun H h b hb => .inl (.inl ⟨us, by rw [List.mem_singleton.mp hb]; exact h⟩), fun H H' h n s => by
    show joinH _ _ _ p = _
    rw [joinH_in List.mem_cons_self]
    exact h⟩
def zV (K : PySem.W.Frag) (L : List Addr) (I : Hp → Prop) (rs : List (Nat × Addr)) (G : Gam) (Nx : List Addr → St → Hp → Prop) (Rt : List Addr → V → Hp → Prop) : TS := fun D σ H => RZ K L I rs G σ H ∧ (∀ L' σ' H', Nx L' σ' H' → Same (lef L H) (lef L' H') → D.nx σ' H') ∧ ∀ L' v H', Rt L' v H' → Same (lef L H) (lef L' H') → D.rt v H'
abbrev noRt : List Addr → V → Hp → Prop := fun _ _ _ => False
section
variable {X : Cx} {L L1 : List Addr} {I I1 : Hp → Prop} {rs rs1 : List (Nat × Addr)} {G G1 : Gam} {Nx Nx1 : List Addr → St → Hp → Prop} {Rt : List Addr → V → Hp → Prop} {e c : Expr} {d : PyData} {k : Bool} {pos : Pos} {st : Stmt} {sts A B : List Stmt} {β : Type} {j : Nat}
theorem zv_consE {Lo : β → List Addr} {Io : β → Hp → Prop} {ro : β → List (Nat × Addr)} {Go : β → Gam} (P : β → Prop) (h1 : PS X st (zV X.K L I rs G (fun L' σ' H' => ∃ y, P y ∧ L' = Lo y ∧ RZ X.K (Lo y) (Io y) (ro y) (Go y) σ' H') noRt)) (h2 : ∀ y, P y → PSs X sts (zV X.K (Lo y) (Io y) (ro y) (Go y) Nx Rt)) : PSs X (st :: sts) (zV X.K L I rs G Nx Rt) := by
  have h2' : PSs X sts (fun D σ H => ∃ y, P y ∧ zV X.K (Lo y) (Io y) (ro y) (Go y) Nx Rt D σ H) := fun pins s σ H D I ⟨y, hy, q⟩ => h2 y hy pins s σ H D I q
  exact (pss_cons h1 h2').imp fun D σ H ⟨r, q1, q2⟩ => ⟨r, fun L' σ' H' ⟨y, hy, el, r'⟩ s => ⟨y, hy, r', fun L2 σ2 H2 n s2 => q1 L2 σ2 H2 n ((el ▸ s).trans s2), fun L2 v H2 n s2 => q2 L2 v H2 n ((el ▸ s).trans s2)⟩, fun _ _ _ f => f.elim⟩
theorem zv_cons (h1 : PS X st (zN X.K L I rs G G1 I1)) (h2 : PSs X sts (zV X.K L I1 rs G1 Nx Rt)) : PSs X (st :: sts) (zV X.K L I rs G Nx Rt) :=
  (pss_cons h1 h2).imp fun D σ H ⟨r, q1, q2⟩ => ⟨r, fun σ' H' r' s' => ⟨r', fun L2 σ2 H2 n s2 => q1 L2 σ2 H2 n (s'.trans s2), fun L2 v H2 n s2 => q2 L2 v H2 n (s'.trans s2)⟩⟩
theorem zv_nil (h : ∀ σ H, RZ X.K L I rs G σ H → Nx L σ H) : PSs X [] (zV X.K L I rs G Nx Rt) := pss_nil.imp fun D σ H ⟨r, q, _⟩ => q L σ H (h σ H r) (Same.refl _)
theorem zv_ret (h : ZE X L I rs G e d I1) (hB : ∀ v H', I1 H' → DV X.K (lef L H') v d → Rt L v H') : PSs X (.Return (some e) pos :: sts) (zV X.K L I rs G Nx Rt) :=
  (pss_cons (ps_ret h) (pss_never (sts := sts))).imp fun D σ H ⟨r, _, q⟩ => ⟨r, fun v H' i' s' dv => q L v H' (hB v H' i' dv) s'⟩
theorem zv_weak {Nx' : List Addr → St → Hp → Prop} (hn : ∀ L' σ' H', Nx L' σ' H' → Nx' L' σ' H') (h : PS X st (zV X.K L I rs G Nx noRt)) : PS X st (zV X.K L I rs G Nx' noRt) := h.imp fun D σ H ⟨r, q1, q2⟩ => ⟨r, fun L2 σ2 H2 n s2 => q1 L2 σ2 H2 (hn _ _ _ n) s2, q2⟩
end
section
variable {X : Cx} {L : List Addr} {I : Hp → Prop} {rs : List (Nat × Addr)} {G : Gam} {b : Expr} {i : Nat} {p : Addr} {us : List V} {v : V} {z : Int} {x : Str} {pos pos2 : Pos}
def tAt (K : PySem.W.Frag) (L : List Addr) (I : Hp → Prop) (rs : List (Nat × Addr)) (G : Gam) (v : V) : TE := fun σ H Q => RZ K L I rs G σ H ∧ ∀ H', RZ K L I rs G σ H' → Same H H' → Q v H'
theorem pe_refAt (ok : ZOk L I) (hi : (i, p) ∈ rs) (hI : ∀ H, I H → H p = some (.lst us)) (hv : PE X (.Name x pos2) (tVar i)) (hb : EV X G b (.int z)) (he : atI us z = some v) (hs : PlainIx b := by intro _ _; rfl) : PE X (.Subscript (.Name x pos2) b pos) (tAt X.K L I rs G v) :=
  (pe_ix ix_list hv hb hs).imp fun σ H Q ⟨r, q⟩ => ⟨.ref p, r.1 _ hi, r.sd, fun y H1 s1 d1 => ⟨p, us, z, v, rfl, d1.of_int, SqL.of (hI _ (ok.step r.2.1 s1)), he, q H1 (r.step ok s1) s1⟩⟩
end
end L2
set_option maxRecDepth 100000
set_option maxHeartbeats 1000000
namespace L2
open PySem PySem.Spec PyProof.Rows
inductive MK (K : PySem.W.Frag) (ls : List (Str × Addr)) (Hb H : Hp) : List (Key × V) → DF → Prop where
  | nil : MK K ls Hb H [] []
  | lst {f : Str} {p : Addr} {us : List V} {ds : List PyData} {r : List (Key × V)} {df : DF} : (f, p) ∈ ls → H p = some (.lst us) → DVs K Hb us ds → noLs ds = true → MK K ls Hb H r df → MK K ls Hb H ((.inr f, .ref p) :: r) ((f, .list ds) :: df)
  | any {f : Str} {v : V} {d : PyData} {r : List (Key × V)} {df : DF} : f ∉ ls.map (·.1) → DV K Hb v d → MK K ls Hb H r df → MK K ls Hb H ((.inr f, v) :: r) ((f, d) :: df)
section
variable {K : PySem.W.Frag} {ls ls' : List (Str × Addr)} {Hb Hb' H H' : Hp} {f : Str} {p a : Addr} {us : List V} {ws : List PyData}
theorem MK.mono (s : Same Hb Hb') (s2 : ∀ q ∈ ls, ∀ o, H q.2 = some o → H' q.2 = some o) : ∀ {kvs : List (Key × V)} {df : DF}, MK K ls Hb H kvs df → MK K ls Hb' H' kvs df
  | _, _, .nil => .nil
  | _, _, .lst h1 h2 h3 h4 t => .lst h1 (s2 _ h1 _ h2) (h3.mono s) h4 (t.mono s s2)
  | _, _, .any h1 h2 t => .any h1 (h2.mono s) (t.mono s s2)
theorem MK.keys : ∀ {kvs : List (Key × V)} {df : DF}, MK K ls Hb H kvs df → kvs.map (·.1) = df.map fun q => (.inr q.1 : Key)
  | _, _, .nil => rfl
  | _, _, .lst _ _ _ _ t => by rw [List.map_cons, List.map_cons, t.keys]
  | _, _, .any _ _ t => by rw [List.map_cons, List.map_cons, t.keys]
theorem MK.of : ∀ {kvs : List (Key × V)} {df : DF}, DVk K Hb kvs (dfD df) → MK K [] Hb H kvs df
  | kvs, [], h => by cases h; exact .nil
  | kvs, (g, d) :: df, h => by
    rw [show dfD ((g, d) :: df) = (.str g, d) :: dfD df from rfl] at h
    generalize ek : (PyData.str g) = ks at h
    cases h with
    | cons h1 t =>
      rename_i k0 x0 xs0
      have : k0 = .inr g := by cases k0 with
        | inl i => cases ek
        | inr s => cases ek; rfl
      subst this
      exact .any (fun z => nomatch z) h1 (MK.of t)
theorem MK.nk : ∀ {kvs : List (Key × V)} {df : DF}, MK K ls Hb H kvs df → (∀ q ∈ df, q.1 ∉ ls.map (·.1) → noL q.2 = true) → NK K ls Hb H kvs df
  | _, _, .nil, _ => .nil
  | _, _, .lst h1 h2 h3 h4 t, h => .lst h1 h2 h3 h4 (t.nk fun q hq => h q (List.mem_cons_of_mem _ hq))
  | _, _, .any h1 h2 t, h => .dat h2 (h _ List.mem_cons_self h1) (t.nk fun q hq => h q (List.mem_cons_of_mem _ hq))
theorem MK.putL (hf : f ∉ ls.map (·.1)) (hp : H p = some (.lst us)) (dv : DVs K Hb us ws) (hn : noLs ws = true) : ∀ {kvs : List (Key × V)} {df : DF}, MK K ls Hb H kvs df → MK K (ls ++ [(f, p)]) Hb H (kvs.map fun kv => if kv.1 = .inr f then (kv.1, .ref p) else kv) (upD f (.list ws) df)
  | _, _, .nil => .nil
  | _, _, .lst (f := g) h1 h2 h3 h4 t => by
    have ih := t.putL hf hp dv hn
    unfold upD at ih ⊢
    rw [List.map_cons, List.map_cons]
    have e : g ≠ f := fun e => hf (by rw [← e]; exact List.mem_map_of_mem (f := (·.1)) h1)
    rw [if_neg (show ¬ ((Sum.inr g : Key) = .inr f) from fun z => e (Sum.inr.inj z)), if_neg (show ¬ g = f from e)]
    exact .lst (List.mem_append_left _ h1) h2 h3 h4 ih
  | _, _, .any (f := g) h1 h2 t => by
    have ih := t.putL hf hp dv hn
    unfold upD at ih ⊢
    rw [List.map_cons, List.map_cons]
    by_cases e : g = f
    · rw [if_pos (show ((Sum.inr g : Key) = .inr f) from congrArg _ e), if_pos (show g = f from e)]
      subst e
      exact .lst (List.mem_append_right _ List.mem_cons_self) hp dv hn ih
    · rw [if_neg (show ¬ ((Sum.inr g : Key) = .inr f) from fun z => e (Sum.inr.inj z)), if_neg (show ¬ g = f from e)]
      refine .any (fun z => ?_) h2 ih
      rw [List.map_append, List.mem_append] at z
      rcases z with z | z
      · exact h1 z
      · exact e (List.mem_singleton.mp z)
end
structure MzS (K : PySem.W.Frag) (R : NR) (df : DF) (Hb H : Hp) (kvs : List (Key × V)) : Prop where
  obj : H R.a = some (.dK kvs)
  few : df.length ≤ 40
  nda : R.L.Nodup
  ndl : (R.ls.map (·.1)).Nodup
  ndk : (df.map (·.1)).Nodup
  sub : ∀ q ∈ R.ls, q.1 ∈ df.map (·.1)
  own : ∀ q ∈ R.ls, ∃ us, H q.2 = some (.lst us)
  nk : MK K R.ls Hb H kvs df
section
variable {K : PySem.W.Frag} {R : NR} {df : DF} {H H' : Hp}
end
section
variable {X : Cx} {R : NR} {df : DF} {rs : List (Nat × Addr)} {G : Gam} {e b : Expr} {ws : List PyData} {i : Nat} {pos pos' pos2 p p4 : Pos} {x f : Str}
end
end L2
set_option maxRecDepth 100000
set_option maxHeartbeats 1000000
namespace L2
open PySem PySem.Spec PyProof.Rows
theorem LZ_one {it : Zt} : LZ [it] = it.1 := by show it.1 ++ [] = _; exact List.append_nil _
theorem tz_one {it : Zt} {H : Hp} : TZ [it] H ↔ it.2 H := ⟨fun t => t.2 it List.mem_cons_self, fun h => ⟨List.pairwise_singleton _ _, fun z hz => by rw [List.mem_singleton.mp hz]; exact h⟩⟩
theorem lef_nil {H : Hp} : lef [] H = H := funext fun b => lef_ne List.not_mem_nil
theorem sd_slot {K : PySem.W.Frag} {H : Hp} {σ : St} {G : Gam} {j : Nat} {v : V} (h : SD K H σ G) (hG : G[j]? = some none) : SD K H (σ.set j (some v)) G := ⟨by rw [List.length_set]; exact h.1, fun i d e => by
  by_cases hj : j = i
  · subst hj; rw [hG] at e; cases e
  · rw [List.getElem?_set_ne hj]; exact h.2 i d e⟩
section
variable {X : Cx} {A B its : List Zt} {it : Zt} {L : List Addr} {I : Hp → Prop} {rs : List (Nat × Addr)} {G G' : Gam} {β : Type} {P : β → Prop} {Lo : β → List Addr} {Io : β → Hp → Prop} {ad : β → Addr} {e b : Expr} {es : List Expr} {d : PyData} {ds : List PyData} {us : List V} {p C : Addr} {i j k : Nat} {z : Int} {x y m f : Str} {pos pos' pos2 pos3 apos p1 p2 p3 p4 : Pos} {sts : List Stmt} {lf : LF} {df : DF} {Nx : List Addr → St → Hp → Prop} {Rt : List Addr → V → Hp → Prop}
end
end L2
set_option maxRecDepth 100000
set_option maxHeartbeats 1000000
namespace L2
open PySem PySem.Spec PyProof.Rows
section
variable {K : PySem.W.Frag} {L : List Addr} {I : Hp → Prop} {rs : List (Nat × Addr)} {G : Gam} {i j l : Nat} {a b c : Addr} {d1 d2 d3 : PyData}
end
theorem Oz.dv {K : PySem.W.Frag} {R : OR} {lf : LF} {df : DF} {H : Hp} (i : Oz K R lf df H) : DV K H (.ref R.a) (objD R.C (fldD lf df)) := let ⟨_, t⟩ := i; t.dv
theorem Nz.dv {K : PySem.W.Frag} {N : NR} {df : DF} {H : Hp} (i : Nz K N df H) : DV K H (.ref N.a) (.dict (dfD df)) := let ⟨_, t⟩ := i; t.dv
theorem Kz.dv {K : PySem.W.Frag} {p : Addr} {S : List PyData} {H : Hp} (i : Kz K p S H) : DV K H (.ref p) (.list S) := let ⟨us, h1, h2, _⟩ := i; .lst (SqL.of h1) (h2.mono lef_same)
section
variable {X : Cx} {A B its : List Zt} {rs : List (Nat × Addr)} {G G' : Gam} {e o b : Expr} {es : List Expr} {d : PyData} {ds ws : List PyData} {us : List V} {p hq q0 : Addr} {i j k l : Nat} {z : Int} {x y m f : Str} {pos pos' pos2 pos3 apos p1 p2 p3 p4 : Pos} {sts : List Stmt} {lf lf' : LF} {df df' : DF} {R : OR} {N : NR}
end
theorem NK.putL {K : PySem.W.Frag} {ls ls' : List (Str × Addr)} {Hb H : Hp} {f : Str} {q : Addr} {us : List V} {ws : List PyData} (hq : (f, q) ∈ ls') (hl : ∀ z ∈ ls, z.1 ≠ f → z ∈ ls') (e : H q = some (.lst us)) (dv : DVs K Hb us ws) (hn : noLs ws = true) : ∀ {kvs : List (Key × V)} {df : DF}, NK K ls Hb H kvs df → NK K ls' Hb H (kvs.map fun kv => if kv.1 = .inr f then (kv.1, .ref q) else kv) (upD f (.list ws) df)
  | _, _, .nil => .nil
  | _, _, .lst (f := g) h1 h2 h3 h4 t => by
    have ih := t.putL hq hl e dv hn
    unfold upD at ih ⊢
    rw [List.map_cons, List.map_cons]
    by_cases eg : g = f
    · rw [if_pos (show ((Sum.inr g : Key) = .inr f) from congrArg _ eg), if_pos (show g = f from eg)]
      subst eg
      exact .lst hq e dv hn ih
    · rw [if_neg (show ¬ ((Sum.inr g : Key) = .inr f) from fun z => eg (Sum.inr.inj z)), if_neg (show ¬ g = f from eg)]
      exact .lst (hl _ h1 eg) h2 h3 h4 ih
  | _, _, .dat (f := g) h1 h2 t => by
    have ih := t.putL hq hl e dv hn
    unfold upD at ih ⊢
    rw [List.map_cons, List.map_cons]
    by_cases eg : g = f
    · rw [if_pos (show ((Sum.inr g : Key) = .inr f) from congrArg _ eg), if_pos (show g = f from eg)]
      subst eg
      exact .lst hq e dv hn ih
    · rw [if_neg (show ¬ ((Sum.inr g : Key) = .inr f) from fun z => eg (Sum.inr.inj z)), if_neg (show ¬ g = f from eg)]
      exact .dat h1 h2 ih
section
variable {X : Cx} {A B : List Zt} {rs : List (Nat × Addr)} {G : Gam} {e2 e3 k1 k2 k3 : Expr} {d2 d3 : PyData} {ws : List PyData} {q : Addr} {i j : Nat} {x y f1 f2 f3 : Str} {pos pos' pos2 apos cpos p1 : Pos} {df : DF} {N : NR}
end
end L2
set_option maxRecDepth 100000
set_option maxHeartbeats 1000000
namespace L2
open PySem PySem.Spec PyProof.Rows
section
variable {X : Cx} {G : Gam} {k : Nat} {C : Addr} {x : Str} {e : Expr} {es : List Expr} {ds : List PyData} {lf : LF} {df : DF} {p2 p3 : Pos}
end
end L2
set_option maxRecDepth 100000
set_option maxHeartbeats 1000000
namespace L2
open PySem PySem.Spec PyProof.Rows
section
variable {K : PySem.W.Frag} {L : List Addr} {I : Hp → Prop} {rs : List (Nat × Addr)} {G G1 : Gam} {i : Nat} {ad : Addr} {d : PyData}
theorem sees_self : Sees K L I rs G G := fun σ H r => r.sd
end
section
variable {X : Cx} {A B its : List Zt} {rs rs1 : List (Nat × Addr)} {G G' G1 : Gam} {e b c a : Expr} {es : List Expr} {d : PyData} {ds S : List PyData} {p ad : Addr} {i j k : Nat} {z : Int} {x y m f : Str} {pos pos' pos2 pos3 apos p1 p2 p3 p4 : Pos} {sts : List Stmt} {lf lf' : LF} {df df' : DF} {R : OR} {L : List Addr} {I : Hp → Prop} {Nx : List Addr → St → Hp → Prop} {Rt : List Addr → V → Hp → Prop}
end
section
variable {X : Cx} {a : Expr} {p pos : Pos}
end
section
variable {X : Cx} {L : List Addr} {rs : List (Nat × Addr)} {G Gv : Gam} {a : Expr} {ds : List PyData} {j1 j2 : Nat} {pos p2 p3 tpos : Pos} {α : Type} {Iv : α → Hp → Prop} {T : α} {Nx : List Addr → St → Hp → Prop} {Rt : List Addr → V → Hp → Prop}
end
section
variable {X : Cx} {L : List Addr} {I I1 : Hp → Prop} {rs : List (Nat × Addr)} {G : Gam} {c : Expr} {A sts : List Stmt} {pos : Pos} {Nx : List Addr → St → Hp → Prop} {Rt : List Addr → V → Hp → Prop} {it : Zt}
theorem zv_ifT (h : ZTI X L I rs G c true I1) (h1 : PSs X A (zV X.K L I1 rs G (fun _ _ _ => False) Rt)) : PSs X (.If c A [] pos :: sts) (zV X.K L I rs G Nx Rt) :=
  (pss_cons (ps_if h h1 (pss_never (sts := []))) (pss_never (sts := sts))).imp fun D σ H ⟨r, q1, q2⟩ => ⟨r, fun H' i' s' => iteT ⟨r.next i' s', fun L2 σ2 H2 n s2 => n.elim, fun L2 v H2 n s2 => q2 L2 v H2 n (s'.trans s2)⟩⟩
theorem zv_ifF (h : ZTI X L I rs G c false I1) (h2 : PSs X sts (zV X.K L I1 rs G Nx Rt)) : PSs X (.If c A [] pos :: sts) (zV X.K L I rs G Nx Rt) :=
  (pss_cons (ps_if h (pss_never (sts := A)) pss_nil) h2).imp fun D σ H ⟨r, q1, q2⟩ => ⟨r, fun H' i' s' => iteF ⟨r.next i' s', fun L2 σ2 H2 n s2 => q1 L2 σ2 H2 n (s'.trans s2), fun L2 v H2 n s2 => q2 L2 v H2 n (s'.trans s2)⟩⟩
theorem zv_tz1 (h : PSs X sts (zV X.K (LZ [it]) (TZ [it]) rs G Nx Rt)) : PSs X sts (zV X.K it.1 it.2 rs G Nx Rt) := h.imp fun D σ H ⟨r, q1, q2⟩ => by
  rw [show zV X.K (LZ [it]) (TZ [it]) rs G Nx Rt = zV X.K it.1 (TZ [it]) rs G Nx Rt by rw [LZ_one]]
  exact ⟨⟨r.1, tz_one.mpr r.2.1, r.2.2⟩, q1, q2⟩
end
section
variable {X : Cx} {L : List Addr} {rs : List (Nat × Addr)} {G Gv : Gam} {c : Expr} {j : Nat} {pos : Pos} {α : Type} {Iv : α → Hp → Prop} {T : α} {Nx : List Addr → St → Hp → Prop} {Rt : List Addr → V → Hp → Prop}
end
structure FunD (K : PySem.W.Frag) (items : Array Value) (x qual : Str) (st : Stmt) (f : Addr) (fd : FuncData) : Prop where
  ex : ∃ (oc : Value) (od : Option Addr) (T : Addr) (n : Nat) (to : Obj) (kV doc pm : Value) (an : Option Addr) (cdv ct : Value) (osl : Array (Option Value)),
    fd = PySem.W.fnOf x qual (defArgs st) (defBody st) (defScope st) (.ref T) kV doc pm an cdv ct ∧ K.lookup f = some ⟨oc, od, .func fd, osl⟩ ∧ PySem.W.codeIn K cdv qual = true ∧ K.lookup T = some to ∧ to.data = .seq items n
  kp : PySem.W.keepIn K (.ref f) = true
section
variable {P : Program} {w : World} {K : PySem.W.Frag} {mg : Str → Option Value} {base : Heap}
theorem FunD.ok {items : Array Value} {x qual : Str} {st : Stmt} {f : Addr} {fd : FuncData} {N ps : List Str} {k : Nat} {sp : Sp} (F : FunD K items x qual st f fd) (S : FnScope N ps (defScope st)) (len : ∀ vs H Q E, sp vs H Q E → vs.length = ps.length)
    (hbody : ∀ (cdv : Value) (A : Around) (outer : List Env) (s : Shared) (H : Hp) (vs : List V) (Q : VK) (E : XK), Room k (A.deeper (envOfC qual (defScope st) s.heap.objs.size f cdv)) → sp vs H Q E →
      ∃ t, PSs (cxOf CX0 P w K mg base N qual (defScope st) f cdv A outer s H E).nox (defBody st) t ∧ t { nx := fun _ H' => Q .non H', rt := Q } (start N vs) H) : FnOk P w K mg base CX0 (k + 1) f fd ps sp := by
  obtain ⟨oc, od, T, n, to, kV, doc, pm, an, cdv, ct, osl, rfl, lk, hcd, lt, ld⟩ := F.ex
  refine fn_of lk hcd S len fun A outer s H vs Q E hr hsp => ?_
  obtain ⟨t, h, q⟩ := hbody cdv A outer s H vs Q E hr hsp
  exact ⟨t, h.nox, q⟩
theorem FunD.binds {items : Array Value} {x qual : Str} {st : Stmt} {f : Addr} {fd : FuncData} {ps : List Str} (F : FunD K items x qual st f fd)
    (h : ∀ (T : Addr) (kV doc pm : Value) (an : Option Addr) (cdv ct : Value) (us : List Value), us.length = ps.length → ∃ kk : Option (Array Value) → Sem (List (Str × Value)), bindArgs (PySem.W.fnOf x qual (defArgs st) (defBody st) (defScope st) (.ref T) kV doc pm an cdv ct) ⟨us, []⟩ = seqItems? (.ref T) >>= kk ∧ kk (some items) = pure (ps.zip us)) : Binds K fd ps [] := by
  obtain ⟨oc, od, T, n, to, kV, doc, pm, an, cdv, ct, osl, rfl, lk, hcd, lt, ld⟩ := F.ex
  intro s us KX hl
  rw [List.append_nil] at hl ⊢
  obtain ⟨kk, h1, h2⟩ := h T kV doc pm an cdv ct us hl
  exact PySem.W.binds_K KX rfl lt ld h1 h2
end
section
variable {X : Cx} {A B : List Zt} {rs : List (Nat × Addr)} {G G' : Gam} {e b c : Expr} {es : List Expr} {d : PyData} {ds : List PyData} {i j k : Nat} {x y f : Str} {pos pos2 p1 p2 p3 p4 : Pos} {sts : List Stmt} {lf lf' : LF} {df df' : DF} {R : OR} {Nx : List Addr → St → Hp → Prop} {Rt : List Addr → V → Hp → Prop}
end
section
variable {X : Cx} {R : OR} {lf lf' : LF} {df df' : DF} {G : Gam} {i : Nat} {st : Stmt}
end
end L2
set_option maxRecDepth 100000
set_option maxHeartbeats 1000000
namespace L2
open PySem PySem.Spec PyProof.Rows
section
variable {X : Cx} {L : List Addr} {I : Hp → Prop} {rs : List (Nat × Addr)} {G : Gam} {elt iter target : Expr} {ifs : List Expr} {pos : Pos} {N : List Str} {ix : List Nat} {scope : Scope}
end
end L2
set_option maxRecDepth 100000
set_option maxHeartbeats 1000000
namespace L2
open PySem PySem.Spec PyProof.Rows
section
variable {X : Cx} {its : List Zt} {L : List Addr} {I : Hp → Prop} {rs : List (Nat × Addr)} {G G' : Gam} {β : Type} {P : β → Prop} {Lo : β → List Addr} {Io : β → Hp → Prop} {ad : β → Addr} {e : Expr} {es : List Expr} {d : PyData} {ds : List PyData} {C : Addr} {j k : Nat} {y f : Str} {pos p1 p4 : Pos} {lf : LF} {df : DF}
end
end L2
set_option maxRecDepth 100000
set_option maxHeartbeats 1000000
namespace L2
open PySem PySem.Spec PyProof.Rows
section
variable {X : Cx} {H0 : Hp} {p : Addr} {i : Nat} {Pre Mid : Gam → List PyData → Prop} {R : List PyData → Prop} {G : Gam} {x : Str} {pos pos' pos2 : Pos} {es : List Expr} {ds : List PyData}
end
section
variable {P : Program} {w : World} {K : PySem.W.Frag} {mg : Str → Option Value} {base : Heap}
end
def KL (K : PySem.W.Frag) (p : Addr) (S : List PyData) (H : Hp) : Prop := ∃ us, H p = some (.lst us) ∧ DVs K (lef [p] H) us S
theorem KL.dv {K : PySem.W.Frag} {p : Addr} {S : List PyData} {H : Hp} (h : KL K p S H) : DV K H (.ref p) (.list S) := let ⟨_, h1, h2⟩ := h; .lst (SqL.of h1) (h2.mono lef_same)
section
variable {X : Cx} {i k : Nat} {rs : List (Nat × Addr)} {G : Gam} {e b : Expr} {es : List Expr} {d : PyData} {S ds : List PyData} {p : Addr} {z : Int} {x f : Str} {pos pos' pos2 pos3 p1 : Pos} {sts : List Stmt}
end
end L2
set_option maxRecDepth 100000
set_option maxHeartbeats 1000000
namespace L2
open PySem PySem.Spec PyProof.Rows
section
variable {prog : Program} {w : World} {A : Around} {s : Shared} {E : Value → Shared → Prop}
theorem key_raw {f cc d c' : Addr} {x y nm qual : Str} {params : Arguments} {scope : Scope} {pm ctv : Value} {p1 p2 p3 : Pos} {g : Key → Option Value} {i v : Int} {t tv : Tok} {Q : Value → Shared → Prop}
    (hroom : A.depth < recursionLimit) (hf : s.heap.get? f = some (PySem.W.kla_obj nm qual params (.Subscript (.Name y p1) (.Name x p2) p3) scope [(y, cc)] pm c' ctv)) (hcd : s.heap.CodeRec (.ref c') qual) (hlim : s.heap.NoLimit) (hcell : s.heap.IsCell cc (some (.ref d))) (hm : s.heap.MapOf (mixKind prog w) d g) (hg : g (Sum.inl i) = some (.int v tv))
    (hb : ∀ u, bindArgs (PySem.W.kla_fn nm qual params (.Subscript (.Name y p1) (.Name x p2) p3) scope [(y, cc)] pm (.ref c') ctv) ⟨[u], []⟩ = pure [(x, u)])
    (hk : scope.kind = .function) (hco : scope.isCoroutine = false) (hgen : scope.isGenerator = false) (hnc : ∀ z ∈ scope.names, z.2 ≠ .cell) (hxl : scope.names.lookup x = some .local)
    (hx : ∀ L', (PySem.W.envX qual scope L' f (.ref c') [(y, cc)]).kindOf x = some .local) (hy : ∀ L', (PySem.W.envX qual scope L' f (.ref c') [(y, cc)]).kindOf y = some .free)
    (hdx : (x == ("__debug__" : Str)) = false) (hdy : (y == ("__debug__" : Str)) = false) (hcy : (y == ("__classdict__" : Str)) = false)
    (h : ∀ h' tk, (∀ b o, s.heap.get? b = some o → h'.get? b = some o) → Q (.int v tv) { s with heap := h', toks := tk }) :
    wpAny (model prog w) A (call (.ref f) [.int i t]) Q E s := by
  refine wpAny_call (PySem.W.kla_callFunE hroom hf rfl hco hgen rfl hcd ?_)
  rw [hb]
  refine wpAny_pure (wpAny_newFunctionEnv hnc (fun z hz => by rw [List.mem_singleton.mp hz]; exact hxl) (fun h₁ hns hsb => ?_) hk)
  have hk₁ : ∀ b o, s.heap.get? b = some o → h₁.get? b = some o := fun b o e => hsb.extBut b o (Nat.ne_of_lt (Heap.lt_size e)) (Heap.get?_push_of_some _ e)
  refine ⟨hlim.keeps hk₁, ?_⟩
  show codeAny _ _ (.expr (.Subscript (.Name y p1) (.Name x p2) p3) (PySem.W.envX qual scope s.heap.objs.size f (.ref c') [(y, cc)])) _ _
  refine PySem.W.kla_codeExpr ?_
  have hm1 : h₁.MapOf (mixKind prog w) d g := let ⟨o, es, ep, e, z⟩ := hm; ⟨o, es, ep, hk₁ _ _ e, z⟩
  have hc1 : h₁.IsCell cc (some (.ref d)) := let ⟨o, e, z⟩ := hcell; ⟨o, hk₁ _ _ e, z⟩
  refine subD_of (T := "dict") PySem.F.slot_dict_getitem.lookup (fun _ _ => rfl) ?_
  refine wpAny_Name (wpAny_loadName_free hk (hy _) (by show List.lookup y [(y, cc)] = some cc; simp) hc1 ?_ hcy) hdy
  refine wpAny_Name (wpAny_loadName_local (v := .int i t) hk (hx _) hns (by show List.lookup x [(x, Value.int i t)] = some (.int i t); simp) ?_) hdx
  refine ⟨hm1.typeIs, ?_⟩
  exact wpAny_getItem_of (kV_is (k := Sum.inl i) (show RelV (.int i) (.int i t) from ⟨_, rfl⟩)) hm1 hg (h _ _ hk₁)
end
def upK (ns : Nat → Int) (vs : Int → Int) (b : Int) : Nat → Nat → Int
  | _, 0 => b
  | j, k + 1 => upK ns vs (if vs (ns j) > vs b then ns j else b) (j + 1) k
section
variable {prog : Program} {w : World} {A : Around}
theorem maxK_loop {I f : Addr} {fp wr : List Addr} {n : Nat} {P : Nat → Value → Prop} {St : Nat → Heap → Prop} (W : Walks prog w A.in1 I fp wr n P St) (ns : Nat → Int) (vs : Int → Int) (hP : ∀ i v, P i v → ∃ t, v = .int (ns i) t) (dv : Value) (S : Addr) (hSf : S ∉ fp) (h₀ : Heap) (hfre : ∀ c o, h₀.get? c = some o → c ∉ wr ∧ c ≠ S)
    (hkey : ∀ (j : Nat) (t : Tok) (s' : Shared) (Q' E' : Value → Shared → Prop), j < n → (∀ c o, h₀.get? c = some o → s'.heap.get? c = some o) → (∀ tv h' tk, (∀ b o, s'.heap.get? b = some o → h'.get? b = some o) → Q' (.int (vs (ns j)) tv) { s' with heap := h', toks := tk }) → wpAny (model prog w) A.in1 (call (.ref f) [.int (ns j) t]) Q' E' s')
    {R : Result → Shared → Prop} :
    ∀ (k j : Nat) (s : Shared) (b : Int) (t t2 : Tok) (c : Nat), n - j = k → j ≤ n → (∀ c o, h₀.get? c = some o → s.heap.get? c = some o) → St j s.heap → s.heap.get? S = some { cls := .type "list", dict := none, data := .seq #[.int b t, .int (vs b) t2] c, slots := #[] } →
    (∀ t' h' tk, (∀ x o, x ∉ wr → x ≠ S → s.heap.get? x = some o → h'.get? x = some o) → R (.ok (.ret (.int (upK ns vs b j k) t'))) { s with heap := h', toks := tk }) →
    codeAny (model prog w) A (.builtin "max.loop" ⟨[.ref I, .ref f, .ref S], [("default", dv)]⟩) R s := by
  have hSw : S ∉ wr := fun h => hSf (W.sub _ h)
  have hname : (toString "max" ++ toString ".loop" : String) = "max.loop" := by decide
  intro k
  induction k with
  | zero =>
    intro j s b t t2 c hk hj hg0 hst hS hR
    have hin : j = n := by omega
    refine codeAny_builtin F.entry_max_loop ?_
    rw [Around.under_plainId F.plain_max_loop _]
    show wpAny _ A.in1 (seqItems? (.ref S) >>= _) _ _ s
    refine wpAny_bind (wpAny_seqItems hS rfl ?_)
    show wpAny _ A.in1 (tryCatch (pyNext (.ref I)) _ >>= _) _ _ s
    refine wpAny_bind (wpAny_tryCatch (W.done s _ _ (hin ▸ hst) fun h' tk hk' => ?_))
    have hS' := hk' S _ hSw hS
    show wpAny _ A.in1 (updateSeq S (fun _ => #[]) >>= _) _ _ _
    refine wpAny_bind ?_
    refine wpAny_updateSeq hS' rfl (wpAny_bind (wpAny_letGo (wpAny_pure ?_)))
    exact hR t _ tk fun x o hx hxS e => (Heap.get?_update_other _ _ (Ne.symm hxS)).trans (hk' x o hx e)
  | succ k ih =>
    intro j s b t t2 c hk hj hg0 hst hS hR
    have hlt : j < n := by omega
    refine codeAny_builtin F.entry_max_loop ?_
    rw [Around.under_plainId F.plain_max_loop _]
    show wpAny _ A.in1 (seqItems? (.ref S) >>= _) _ _ s
    refine wpAny_bind (wpAny_seqItems hS rfl ?_)
    show wpAny _ A.in1 (tryCatch (pyNext (.ref I)) _ >>= _) _ _ s
    refine wpAny_bind (wpAny_tryCatch (W.item j s _ _ hlt hst fun v h1 tk hPv hst1 hk1 => ?_))
    obtain ⟨tv, rfl⟩ := hP j v hPv
    have hS1 := hk1 S _ hSw hS
    have hg1 : ∀ c o, h₀.get? c = some o → h1.get? c = some o := fun c o e => hk1 c o (hfre c o e).1 (hg0 c o e)
    show wpAny _ A.in1 (tryCatch (holding [Value.int (ns j) tv] (call (.ref f) [Value.int (ns j) tv])) _ >>= _) _ _ _
    refine wpAny_bind (wpAny_tryCatch (wpAny_holding (hkey j tv _ _ _ hlt hg1 fun tw h' tk' hk2 => ?_)))
    have hk' : ∀ x o, x ∉ wr → s.heap.get? x = some o → h'.get? x = some o := fun x o hx e => hk2 x o (hk1 x o hx e)
    have hS' := hk2 S _ hS1
    have hg' : ∀ c o, h₀.get? c = some o → h'.get? c = some o := fun c o e => hk2 c o (hg1 c o e)
    have hst' : St (j + 1) h' := W.frame _ _ _ hst1 fun x hx o e => hk2 x o e
    show wpAny _ A.in1 (tryCatch (holding [Value.int (ns j) tv, Value.int (vs (ns j)) tw] (richCompare .Gt (Value.int (vs (ns j)) tw) (Value.int (vs b) t2) >>= _)) _ >>= _) _ _ _
    refine wpAny_bind (wpAny_tryCatch (wpAny_holding (wpAny_bind (PyProof.Rows.gt_int ?_))))
    refine wpAny_bind (wpAny_holding (wpAny_truthy_bool ?_))
    refine wpAny_bind (wpAny_letGo (wpAny_pure ?_))
    by_cases hb : vs (ns j) > vs b
    · rw [decide_eq_true (show vs b < vs (ns j) from hb)]
      simp only [if_true]
      refine wpAny_bind ?_
      refine wpAny_updateSeq hS' rfl (wpAny_bind (wpAny_letGo ?_))
      rw [hname]
      have e : upK ns vs b j (k + 1) = upK ns vs (ns j) (j + 1) k := by rw [upK, if_pos hb]
      rw [e] at hR
      exact wpAny_pure ⟨plainId_quiet F.plain_max_loop _, ih (j + 1) _ (ns j) tv tw _ (by omega) hlt (fun x o e => (Heap.get?_update_other _ _ (Ne.symm (hfre x o e).2)).trans (hg' x o e)) (W.frame _ _ _ hst' fun x hx o e => (Heap.get?_update_other _ _ (fun h : S = x => hSf (by rw [h]; exact hx))).trans e) (Heap.get?_update_self _ hS' rfl)
        fun t' h'' tk'' hk'' => hR t' h'' tk'' fun x o hx hxS e => hk'' x o hx hxS ((Heap.get?_update_other _ _ (Ne.symm hxS)).trans (hk' x o hx e))⟩
    · rw [decide_eq_false (show ¬ vs b < vs (ns j) from hb)]
      simp only [Bool.false_eq_true, if_false]
      refine wpAny_bind (wpAny_letGo ?_)
      rw [hname]
      have e : upK ns vs b j (k + 1) = upK ns vs b (j + 1) k := by rw [upK, if_neg hb]
      rw [e] at hR
      exact wpAny_pure ⟨plainId_quiet F.plain_max_loop _, ih (j + 1) _ b t t2 c (by omega) hlt hg' hst' hS' fun t' h'' tk'' hk'' => hR t' h'' tk'' fun x o hx hxS e => hk'' x o hx hxS (hk' x o hx e)⟩
theorem args_max_key (a k d : Value) : argsOk "max" ⟨[a], [("key", k), ("default", d)]⟩ := by unfold argsOk; kernel_rfl
def bestK (ns : List Int) (vs : Int → Int) : Option Int := match ns with
  | [] => none
  | x :: _ => some (upK (fun i => ns.getD i 0) vs x 1 (ns.length - 1))
variable {E : Value → Shared → Prop} {s : Shared}
theorem max_key {l f : Addr} {its : List Value} {ns : List Int} {vs : Int → Int} {Q : Value → Shared → Prop} (hh : A.handled = none) (hl : s.heap.IsList l its.toArray) (hi : IntsAre its ns)
    (hkey : ∀ (j : Nat) (t : Tok) (s' : Shared) (Q' E' : Value → Shared → Prop), j < ns.length → (∀ c o, s.heap.get? c = some o → s'.heap.get? c = some o) → (∀ tv h' tk, (∀ b o, s'.heap.get? b = some o → h'.get? b = some o) → Q' (.int (vs (ns.getD j 0)) tv) { s' with heap := h', toks := tk }) → wpAny (model prog w) A.in1 (call (.ref f) [.int (ns.getD j 0) t]) Q' E' s')
    (h : ∀ u h' tk, (match bestK ns vs with | none => u = Value.none | some z => ∃ t, u = Value.int z t) → (∀ c o, s.heap.get? c = some o → h'.get? c = some o) → Q u { s with heap := h', toks := tk }) :
    wpAny (model prog w) A (call (.builtin "max") [.ref l] [("key", .ref f), ("default", .none)]) Q E s := by
  have hname : (toString "max" ++ toString ".loop" : String) = "max.loop" := by decide
  refine wpAny_call (codeAny_call_builtin F.plain_max F.entry_max ?_)
  simp only [checkBuiltinCall, F.kind_max]
  have hc : wpAny (model prog w) A.in1 (Builtin.«max» ⟨[.ref l], [("key", .ref f), ("default", .none)]⟩) (fun fin s' => match fin with
      | .done f => (match (Except.ok f : Result) with | .ok (.ret v) => Q v s' | .ok _ => False | .error e => E e s')
      | .again c' => c'.quiet = true ∧ codeAny (model prog w) A c' (fun r s' => match r with | .ok (.ret v) => Q v s' | .ok _ => False | .error e => E e s') s') E s := by
    show wpAny _ A.in1 (Builtin.Builtins.bindParams "max" ["key", "default"] 0 ⟨[], [("key", .ref f), ("default", .none)]⟩ >>= _) _ _ s
    refine wpAny_bind (wpAny_of_eq (show Builtin.Builtins.bindParams "max" ["key", "default"] 0 ⟨[], [("key", .ref f), ("default", .none)]⟩ = pure [some (.ref f), some .none] from rfl) ?_)
    refine wpAny_bind (wpAny_pure ?_)
    refine wpAny_bind (wpAny_pyIter_list hl ?_)
    refine wpAny_bind (wpAny_newObj_type ?_)
    rw [hname]
    generalize hI : s.heap.objs.size = I
    have hlI : l ≠ I := by
      obtain ⟨o, ho, _⟩ := hl
      rw [← hI]
      exact Nat.ne_of_lt (Heap.lt_size ho)
    have W := Walks.list (prog := prog) (w := w) (A := A.in1) hh I l hlI its.toArray
    have hst0 : (s.heap.push { cls := .type "list_iterator", data := .fields #[.ref l, .int 0 0] }).IsListIter I l 0 ∧ (s.heap.push { cls := .type "list_iterator", data := .fields #[.ref l, .int 0 0] }).IsList l its.toArray :=
      ⟨⟨_, by rw [← hI]; exact Heap.get?_push_size _ rfl, rfl, rfl⟩, hl.push _⟩
    have old0 : ∀ c o, s.heap.get? c = some o → (s.heap.push { cls := .type "list_iterator", data := .fields #[.ref l, .int 0 0] }).get? c = some o := fun c o e => Heap.get?_push_of_some _ e
    have hsz : (s.heap.push { cls := .type "list_iterator", data := .fields #[.ref l, .int 0 0] }).objs.size = I + 1 := by rw [← hI]; exact Heap.size_push ..
    have hlt : l < I := by
      obtain ⟨o, ho, _⟩ := hl
      rw [← hI]
      exact Heap.lt_size ho
    have oldI : ∀ c o, s.heap.get? c = some o → c < I := fun c o e => by rw [← hI]; exact Heap.lt_size e
    generalize hh0 : s.heap.push { cls := .type "list_iterator", data := .fields #[.ref l, .int 0 0] } = h0 at *
    generalize hS : h0.objs.size = S at *
    subst hsz
    have hSf : I + 1 ∉ [I, l] := fun z => by
      simp only [List.mem_cons, List.not_mem_nil, or_false] at z
      rcases z with z | z
      · exact absurd z (Nat.succ_ne_self I)
      · rw [← z] at hlt; exact absurd hlt (Nat.not_lt_of_le (Nat.le_succ I))
    have hSw : I + 1 ∉ [I] := fun z => hSf (W.sub _ z)
    have hS0 : (h0.push { cls := .type "list", dict := none, data := .seq #[] 0, slots := #[] }).get? (I + 1) = some { cls := .type "list", dict := none, data := .seq #[] 0, slots := #[] } := by rw [← hS]; exact Heap.get?_push_size _ rfl
    have st1 := W.frame 0 _ (h0.push { cls := .type "list", dict := none, data := .seq #[] 0, slots := #[] }) hst0 fun b hb o e => Heap.get?_push_of_some _ e
    have old1 : ∀ c o, s.heap.get? c = some o → (h0.push { cls := .type "list", dict := none, data := .seq #[] 0, slots := #[] }).get? c = some o ∧ c ∉ [I] ∧ c ≠ I + 1 := fun c o e => by
      have := oldI c o e
      refine ⟨Heap.get?_push_of_some _ (old0 c o e), fun z => ?_, fun z => ?_⟩
      · rw [List.mem_singleton.mp z] at this; exact Nat.lt_irrefl _ this
      · rw [z] at this; exact Nat.lt_irrefl _ (Nat.lt_of_succ_lt this)
    refine wpAny_pure ⟨plainId_quiet F.plain_max_loop _, codeAny_builtin F.entry_max_loop ?_⟩
    rw [Around.under_plainId F.plain_max_loop _]
    show wpAny _ A.in1 (seqItems? (.ref (I + 1)) >>= _) _ _ _
    refine wpAny_bind (wpAny_seqItems hS0 rfl ?_)
    show wpAny _ A.in1 (tryCatch (pyNext (.ref I)) _ >>= _) _ _ _
    have hin : ∀ (i : Nat) v, its.toArray[i]? = some v → ∃ t, v = .int (ns.getD i 0) t := by
      intro i v hv
      exact ints_get hi (by simpa using hv)
    have hlen : its.length = ns.length := IntsAre.length hi
    cases ns with
    | nil =>
      have h0' : its.toArray.size = 0 := by simpa using hlen
      refine wpAny_bind (wpAny_tryCatch (W.done _ _ _ (by rw [h0']; exact st1) fun h' tk hk' => ?_))
      refine wpAny_bind (wpAny_rule (wpAny_pure ?_))
      exact h .none _ tk rfl fun c o e => hk' c o (old1 c o e).2.1 (old1 c o e).1
    | cons x r =>
      have hsz2 : its.toArray.size = r.length + 1 := by simpa using hlen
      refine wpAny_bind (wpAny_tryCatch (W.item 0 _ _ _ (by rw [hsz2]; omega) st1 fun v h2 tk hPv hst2 hk2 => ?_))
      obtain ⟨tv, rfl⟩ := hin 0 v hPv
      have hS2 := hk2 (I + 1) _ hSw hS0
      have hg2 : ∀ c o, s.heap.get? c = some o → h2.get? c = some o := fun c o e => hk2 c o (old1 c o e).2.1 (old1 c o e).1
      show wpAny _ A.in1 (tryCatch (holding [Value.int x tv] (call (.ref f) [Value.int x tv])) _ >>= _) _ _ _
      refine wpAny_bind (wpAny_tryCatch (wpAny_holding (hkey 0 tv _ _ _ (Nat.succ_pos _) hg2 fun tw h3 tk3 hk3 => ?_)))
      have hS3 := hk3 (I + 1) _ hS2
      show wpAny _ A.in1 (updateSeq (I + 1) (fun _ => #[Value.int x tv, Value.int (vs x) tw]) >>= _) _ _ _
      refine wpAny_bind ?_
      refine wpAny_updateSeq hS3 rfl ?_
      rw [hname]
      refine wpAny_pure ⟨plainId_quiet F.plain_max_loop _, maxK_loop W (fun i => (x :: r).getD i 0) vs hin _ (I + 1) hSf s.heap (fun c o e => ⟨(old1 c o e).2.1, (old1 c o e).2.2⟩) (fun j t s' Q' E' hj hg hq => hkey j t s' Q' E' (by rw [hsz2] at hj; exact hj) hg hq) r.length 1 _ x tv tw _ (by rw [hsz2]; omega) (by rw [hsz2]; omega) (fun c o e => (Heap.get?_update_other _ _ (Ne.symm (old1 c o e).2.2)).trans (hk3 c o (hg2 c o e))) (W.frame _ _ _ (W.frame _ _ _ hst2 fun b hb o e => hk3 b o e) fun b hb o e => (Heap.get?_update_other _ _ (fun z : I + 1 = b => hSf (by rw [z]; exact hb))).trans e) (Heap.get?_update_self _ hS3 rfl) fun t' h'' tk'' hk'' => ?_⟩
      exact h _ h'' tk'' ⟨t', rfl⟩ fun c o e => hk'' c o (old1 c o e).2.1 (old1 c o e).2.2 ((Heap.get?_update_other _ _ (Ne.symm (old1 c o e).2.2)).trans (hk3 c o (hg2 c o e)))
  cases hsig : Manifest.signature? "max" with
  | none => exact wpAny_pure hc
  | some sig =>
    have ha' : Bind.checkArgs "max" sig ⟨[.ref l], [("key", .ref f), ("default", .none)]⟩ = pure () := by
      have := args_max_key (.ref l) (.ref f) .none
      simpa only [argsOk, hsig] using this
    simp only [ha']
    exact wpAny_pure hc
end
end L2
set_option maxRecDepth 100000
set_option maxHeartbeats 1000000
namespace L2
open PySem PySem.Spec PyProof.Rows
section
theorem law_callT {P : Program} {w : World} {K : PySem.W.Frag} {mg mb : Str → Option Value} {CX : CXT} {k : Nat} {fa a T c : Addr} {fd : FuncData} {x : Str} {sp : Sp} {s₁ : Shared} {vs : List Value} {ns : List Int}
    (KX : K.In s₁.heap) (hns : s₁.heap.Ns mainGlobals mg) (hb : s₁.heap.Ns builtinsNs mb) (hbb : ∀ x : Str, x ≠ "__name__" → mb x = bootBuiltins x) (hlim : s₁.heap.NoLimit) (hg : s₁.gens = #[])
    (bmain : ∃ bm ob, mg "__builtins__" = some (.ref bm) ∧ bm ≠ builtinsNs ∧ s₁.heap.get? bm = some ob ∧ ob.cls = .type "module" ∧ ob.dict = some builtinsNs ∧ ob.data = .plain)
    (hT : s₁.heap.get? T = some (PySem.W.tabObj #[])) (hC : PySem.W.CodeHd s₁.heap c T) (hKT : K.lookup T = none)
    (ha : s₁.heap.get? a = some { cls := .type "list", data := .seq vs.toArray }) (hi : IntsAre vs ns) (hl : ns.length ≤ sizeLine) (hr : Room k callerA)
    (F : ∀ base : Heap, K.In base → base.Ns mainGlobals mg → base.BuiltinsAt mg T → FnOk P w K mg base CX k fa fd [x] sp) (hbind : ∀ (s : Shared) (u : Value), BindsTo s fd ⟨[u], []⟩ [(x, u)])
    (hsp : ∀ H : Hp, H T = some (.tbl #[]) → SqL K H a (ns.map V.int) → a ≠ T → sp [.ref a] H (fun v _ => v = .bl true) fun _ _ _ => False)
    (hCX : ∀ H e s', CX [] H s₁ (fun _ _ _ => False) e s' → False) :
    codeAny (model P w) callerA (.call (.ref fa) ⟨[.ref a], []⟩) (fun r s' => r = .ok (.ret (.bool true)) ∧ OldK s₁.heap s'.heap ∧ s'.os = s₁.os ∧ AllBare s'.gens) s₁ := by
  have rv := vals_ints hi
  have lenV := hi.length
  have haT : a ≠ T := fun z => by rw [z, hT] at ha; cases ha
  have core : ∀ H : Hp, H T = some (.tbl #[]) → (∀ b, b ≠ T → H b = none ∨ ∃ o xs, H b = some (.frz o (.lst xs))) → SqL K H a (ns.map V.int) → HOk P w H s₁.heap → (∀ b, H b ≠ none → b = a ∨ b = T) → (H a ≠ none → K.lookup a = none) →
      codeAny (model P w) callerA (.call (.ref fa) ⟨[.ref a], []⟩) (fun r s' => r = .ok (.ret (.bool true)) ∧ OldK s₁.heap s'.heap ∧ s'.os = s₁.os ∧ AllBare s'.gens) s₁ := by
    intro H hTt hO hS hok hA hK
    have base_of : ∀ {b : Addr} {o : Obj}, s₁.heap.get? b = some o → H b = none → (hidT s₁.heap H).get? b = some o := fun e n => hidT_get e n
    have noA0 : ∀ {b : Addr} {o : Obj}, s₁.heap.get? b = some o → (∀ n, o.data ≠ .seq vs.toArray n) → (∀ ps, o.data ≠ .fields ps) → H b = none := fun {b o} e d1 d2 => by
      cases q : H b with
      | none => rfl
      | some u =>
        rcases hA b (by rw [q]; simp) with e' | e'
        · subst e'
          rw [ha] at e; cases e
          exact (d1 _ rfl).elim
        · subst e'
          rw [hT] at e; cases e
          exact (d2 _ rfl).elim
    have nsK : ∀ {b : Addr} {m : Str → Option Value}, s₁.heap.Ns b m → (hidT s₁.heap H).Ns b m := fun {b m} ⟨o, es, ep, e, d, r⟩ => ⟨o, es, ep, base_of e (noA0 e (fun n z => by rw [d] at z; cases z) fun ps z => by rw [d] at z; cases z), d, r⟩
    have hKb : K.In (hidT s₁.heap H) := fun b o e => base_of (KX b o e) (by
      cases q : H b with
      | none => rfl
      | some u =>
        rcases hA b (by rw [q]; simp) with e' | e'
        · subst e'
          rw [hK (by rw [q]; simp)] at e; cases e
        · subst e'
          rw [hKT] at e; cases e)
    have hM : Mod K mg (hidT s₁.heap H) := ⟨hKb, nsK hns, ⟨mb, nsK hb, hbb⟩, let ⟨mc, h1, h2⟩ := hlim; ⟨mc, nsK h1, h2⟩⟩
    have hB : (hidT s₁.heap H).BuiltinsAt mg T := by
      obtain ⟨bm, ob, b1, b2, b3, b4, b5, b6⟩ := bmain
      refine ⟨bm, ob, b1, b2, fun z => ?_, fun z => ?_, base_of b3 (noA0 b3 (fun n z => by rw [b6] at z; cases z) fun ps z => by rw [b6] at z; cases z), b4, b5, b6⟩
      · obtain ⟨o, es, ep, e, d, _⟩ := hns
        rw [z, e] at b3; cases b3
        rw [b6] at d; cases d
      · rw [z, hT] at b3; cases b3
        cases b6
    have e0 : Env0 P w K mg (hidT s₁.heap H) callerA [] s₁ H := ⟨rfl, hM, fun b o e => of_hidT e, Nat.le_of_eq (hidT_size _ _), trivial, fun b hb => absurd (show b ∈ ([] : List Addr) from hb) (by simp), hok, .of_eq hg⟩
    refine codeAny_mono ((F _ hKb (nsK hns) hB).run callerA [] s₁ H ⟨[.ref a], []⟩ [.ref a] [.ref a] _ _ hr e0 (hbind s₁ (.ref a)) (.cons rfl .nil) (hsp H hTt hS haT)) fun r s' h => ?_
    cases r with
    | error e => exact (hCX H e s' h).elim
    | ok fl =>
      cases fl with
      | next => exact False.elim h
      | brk => exact False.elim h
      | cont => exact False.elim h
      | ret u =>
        obtain ⟨v, H', os, bare, un, hok', r', q⟩ := h
        have q' : v = .bl true := q
        subst q'
        obtain rfl : u = Value.bool true := r'
        obtain ⟨more, hm⟩ := un.tbls T _ hTt
        have hT' : s'.heap.get? T = some { cls := .none, data := .fields (#[] ++ more) } := hok' T _ hm
        have key : ∀ b o, b ≠ T → s₁.heap.get? b = some o → s'.heap.get? b = some o := fun b o hbT e => by
          cases q : H b with
          | none => exact un.keep b o e q (by intro z; exact absurd (show b ∈ ([] : List Addr) from z) (by simp)) (by simp)
          | some u =>
            rcases hO b hbT with z | ⟨ob, xs, z⟩
            · rw [q] at z; cases z
            · have z2 := un.frzs b ob _ z
              obtain ⟨e1, _⟩ := hok b _ z
              obtain ⟨e2, _⟩ := hok' b _ z2
              rw [e] at e1; cases e1
              exact e2
        refine ⟨rfl, ⟨fun b o e => ?_, fun b o e => ?_⟩, os, bare⟩
        · by_cases hbT : b = T
          · subst hbT
            rw [hT] at e; cases e
            exact .inr (.inl ⟨(hC.tab hT).isCodeTable, rfl, #[], more, rfl, hT'⟩)
          · exact .inl (key b o hbT e)
        · by_cases hbT : b = T
          · exact ⟨_, hbT ▸ hT'⟩
          · exact ⟨o, key b o hbT e⟩
  cases hk : K.lookup a with
  | some o =>
    have e := KX a o hk
    rw [ha] at e
    cases e
    refine core (fun b => if b = T then some (.tbl #[]) else none) (if_pos rfl) (fun b hb => .inl (if_neg hb)) (.inr ⟨_, vs.toArray, _, hk, rfl, rfl, rfl, by rw [List.size_toArray, lenV]; exact hl, by simpa using rv⟩) (fun b u z => ?_) (fun b z => ?_) fun z => absurd (if_neg haT) z
    · by_cases hbT : b = T
      · have z' := (if_pos hbT).symm.trans z
        cases z'
        subst hbT
        exact hT
      · have z' := (if_neg hbT).symm.trans z
        cases z'
    · by_cases hbT : b = T
      · exact .inr hbT
      · exact absurd (if_neg hbT) z
  | none =>
    refine core (fun b => if b = T then some (.tbl #[]) else if b = a then some (.frz { cls := .type "list", data := .seq vs.toArray } (.lst (ns.map V.int))) else none) (if_pos rfl) (fun b hb => ?_) (.inl (.inr ⟨{ cls := .type "list", data := .seq vs.toArray }, (if_neg haT).trans (if_pos rfl)⟩)) (fun b u z => ?_) (fun b z => ?_) fun _ => hk
    · by_cases hba : b = a
      · exact .inr ⟨_, _, (if_neg hb).trans (if_pos hba)⟩
      · exact .inl ((if_neg hb).trans (if_neg hba))
    · by_cases hbT : b = T
      · have z' := (if_pos hbT).symm.trans z
        cases z'
        subst hbT
        exact hT
      · have z := (if_neg hbT).symm.trans z
        by_cases hba : b = a
        · have z' := (if_pos hba).symm.trans z
          cases z'
          subst hba
          exact ⟨ha, by rw [List.length_map]; exact hl, vs, _, rv, ha⟩
        · have z' := (if_neg hba).symm.trans z
          cases z'
    · by_cases hbT : b = T
      · exact .inr hbT
      · by_cases hba : b = a
        · exact .inl hba
        · exact absurd ((if_neg hbT).trans (if_neg hba)) z
theorem walk_T {l : PySem.W.OpenLaw} {n k : Nat} {q : Program} {loose : List Str} {XP : (Str → Option Value) → Heap → Prop} {YP : World → Heap → Prop} {d : DefRec} {K : Params → PySem.W.Frag} {CX : World → CXT} {sp : World → Sp} {x : Str} {T c : Addr}
    (hn : l.most = some n) (hn2 : n ≤ sizeLine) (hdf : d.params.defaults = []) (hr : Room k callerA)
    (hY : ∀ (w : World) (h : Heap), YP w h → (K w.params).In h ∧ h.get? T = some (PySem.W.tabObj #[])) (hKT : ∀ w : World, (K w.params).lookup T = none) (hC : ∀ w : World, PySem.W.codeHdIn (K w.params) c T = true)
    (F : ∀ (w : World) (mg : Str → Option Value) (fa : Addr) (h : Heap), (K w.params).In h → h.Ns mainGlobals mg → mg d.name = some (.ref fa) →
      ∃ fd : FuncData, (∀ (s : Shared) (u : Value), BindsTo s fd ⟨[u], []⟩ [(x, u)]) ∧
        ∀ base : Heap, (K w.params).In base → base.Ns mainGlobals mg → base.BuiltinsAt mg T → FnOk l.prog w (K w.params) mg base (CX w) k fa fd [x] (sp w))
    (hsp : ∀ (w : World) (H : Hp) (a : Addr) (ns : List Int), ns.length ≤ n → H T = some (.tbl #[]) → SqL (K w.params) H a (ns.map V.int) → a ≠ T → sp w [.ref a] H (fun v _ => v = .bl true) fun _ _ _ => False)
    (hCX : ∀ (w : World) (H : Hp) (s : Shared) (e : Value) (s' : Shared), CX w [] H s (fun _ _ _ => False) e s' → False) :
    PySem.W.WalkO q loose XP YP l.row.toRowW d [] (fun f vs => PySem.call f vs) := by
  refine Att.attach_call hn hdf fun w s₀ s₁ mg mb fa o pm cd doc a vs ns G Y ho hd hcd hmg hobj hints hlen hg => ?_
  obtain ⟨KX, hT⟩ := hY w _ Y
  obtain ⟨fd, hb, hF⟩ := F w mg fa _ KX G.T.g hmg
  exact law_callT KX G.T.g G.T.b G.T.builtins G.T.nolimit hg G.T.bmain hT (PySem.W.codeHd_of_K KX (hC w)) (hKT w) hobj hints (Nat.le_trans hlen hn2) hr hF hb (fun H hO hS hn => hsp w H a ns hlen hO hS hn) fun H e s' => hCX w H s₁ e s'
end
end L2
set_option maxRecDepth 100000
set_option maxHeartbeats 1000000
namespace L2
open PySem PySem.Spec PyProof.Rows
def codφ (c' : Addr) (qual : Str) : Heap → Prop := fun h => h.CodeRec (.ref c') qual
def lamφ (f c' : Addr) (qual : Str) (params : Arguments) (body : Expr) (lsc : Scope) (clos : List (Str × Addr)) (pm : Value) : Heap → Prop := fun h => ∃ ctv, h.get? f = some (PySem.W.kla_obj "<lambda>" qual params body lsc clos pm c' ctv)
def TbI (T : Addr) (pos : Pos) (qual : Str) (o : Option Addr) (H : Hp) : Prop := match o with
  | none => H T = some (.tbl #[])
  | some c' => c' ≠ T ∧ H T = some (.tbl #[rawInt pos.line, rawInt pos.col, .ref c']) ∧ H c' = some (.ext (codφ c' qual))
def tL (T : Addr) (o : Option Addr) : List Addr := T :: o.toList
theorem cod_ok {P : Program} {w : World} {H : Hp} {h : Heap} {c' : Addr} {qual : Str} (x : h.CodeRec (.ref c') qual) : ObjOk P w H h c' (.ext (codφ c' qual)) := by
  refine ⟨x, ?_, fun h1 h2 y k => ?_⟩
  · obtain ⟨c, o, vs, t, e, ho, _⟩ := x
    cases e
    exact ⟨o, ho⟩
  · obtain ⟨c, o, vs, t, e, ho, r⟩ := y
    cases e
    exact ⟨_, o, vs, t, rfl, k _ ho, r⟩
theorem lam_ok {P : Program} {w : World} {H : Hp} {h : Heap} {f c' : Addr} {qual : Str} {params : Arguments} {body : Expr} {lsc : Scope} {clos : List (Str × Addr)} {pm ctv : Value} (x : h.get? f = some (PySem.W.kla_obj "<lambda>" qual params body lsc clos pm c' ctv)) : ObjOk P w H h f (.ext (lamφ f c' qual params body lsc clos pm)) :=
  ⟨⟨ctv, x⟩, ⟨_, x⟩, fun h1 h2 ⟨ctv, y⟩ k => ⟨ctv, k _ y⟩⟩
theorem HOk.stays {P : Program} {w : World} {H H' : Hp} {h h' : Heap} {a : Addr} {o : HO} {T : Addr} (x : HOk P w H h) (e : H a = some o) (ha : a ≠ T) (hT : ∃ ps, H T = some (.tbl ps)) (k : ∀ b u, b ≠ T → h.get? b = some u → h'.get? b = some u) (hH : ∀ b u, b ≠ T → H b = some u → H' b = some u) : ObjOk P w H' h' a o := by
  obtain ⟨ps, hT⟩ := hT
  refine (x a o e).stay (fun b u hb q => k b u (fun z => ?_) q) (fun b q => hH b _ (fun z => ?_) q) fun b xs q => hH b _ (fun z => ?_) q
  · rcases hb with hb | hb
    · exact ha (hb ▸ z)
    · rw [z, hT] at hb; cases hb
  · rw [z, hT] at q; cases q
  · rw [z, hT] at q; cases q
section
variable {o : Option Addr} {X : Cx} {T c : Addr} {pos : Pos} {qual : Str} {params : Arguments} {body : Expr} {lsc : Scope} {clos : List (Str × Addr)}
def tLam (T : Addr) (pos : Pos) (qual : Str) (params : Arguments) (body : Expr) (lsc : Scope) (clos : List (Str × Addr)) (pm : Value) (o : Option Addr) : TE := fun σ H Q => TbI T pos qual o H ∧ ∀ f c' H', H f = none → f ∉ tL T (some c') → TbI T pos qual (some c') H' → Same (lef (tL T o) H) (lef (tL T (some c')) H') → H' f = some (.ext (lamφ f c' qual params body lsc clos pm)) → Q (.ref f) H'
theorem pe_lam (hcode : X.env.code = .ref c) (hC : PySem.W.CodeHd X.base c T) (hB : X.base.BuiltinsAt X.mg T) (hcl : closureFor lsc X.env = pure clos) (hdef : defaultsOf params X.env = ([], [])) (hq : X.env.qual ++ "<lambda>" = qual) :
    PE X (.Lambda params body lsc pos) (tLam T pos qual params body lsc clos ((X.mg "__name__").getD .none) o) := by
  intro pins s σ H Q I ⟨hT, q⟩
  have hgs : s.heap.Ns mainGlobals X.mg := I.mod.glob.keeps I.bk
  have hBs : s.heap.BuiltinsAt X.mg T := let ⟨bm, ob, b1, b2, b3, b4, b5, b6⟩ := hB; ⟨bm, ob, b1, b2, b3, b4, I.bk _ _ b5, b6⟩
  have hCs : PySem.W.CodeHd s.heap c T := hC.keeps I.bk
  refine PySem.W.kla_eval hdef ?_
  rw [hq]
  cases o with
  | none =>
    have hT : H T = some (.tbl #[]) := hT
    have hTs : s.heap.get? T = some (PySem.W.tabObj #[]) := I.hok T _ hT
    have hgT : mainGlobals ≠ T := fun z => by
      obtain ⟨o, es, ep, e, d, _⟩ := hgs
      rw [z, hTs] at e; cases e; cases d
    refine PySem.W.kla_makeFunction (mg := X.mg) hcl I.ok.glob hgs hcode hCs hTs trivial rfl hgT hBs fun c' ctv h' tk hx hge hlt hrec htb => ?_
    have htb : h'.get? T = some (PySem.W.tabObj #[rawInt pos.line, rawInt pos.col, .ref c']) := by simpa using htb
    have hcn : H c' = none := I.hok.fresh hge
    have hfn : H h'.objs.size = none := I.hok.fresh (Nat.le_trans hge (Nat.le_of_lt hlt))
    have hTl : T < s.heap.objs.size := Heap.lt_size hTs
    have hcT : c' ≠ T := fun z => by rw [z] at hge; exact absurd hTl (Nat.not_lt_of_le hge)
    have hfT : h'.objs.size ≠ T := fun z => by rw [z] at hlt; exact absurd (Nat.lt_trans hlt hTl) (Nat.not_lt_of_le hge)
    have hfc : h'.objs.size ≠ c' := fun z => by rw [z] at hlt; exact Nat.lt_irrefl _ hlt
    generalize hob : PySem.W.kla_obj "<lambda>" qual params body lsc clos ((X.mg "__name__").getD .none) c' ctv = ob at *
    have kk : ∀ b u, b ≠ T → s.heap.get? b = some u → (h'.push ob).get? b = some u := fun b u hb e => Heap.get?_push_of_some _ (hx b u hb e)
    have hT2 : (h'.push ob).get? T = some (PySem.W.tabObj #[rawInt pos.line, rawInt pos.col, .ref c']) := Heap.get?_push_of_some _ htb
    have hf2 : (h'.push ob).get? h'.objs.size = some ob := Heap.get?_push_size _ (by rw [← hob]; rfl)
    have hr2 : (h'.push ob).CodeRec (.ref c') qual := let ⟨c0, o, vs, t, e, ho, r⟩ := hrec; ⟨c0, o, vs, t, e, Heap.get?_push_of_some _ ho, r⟩
    obtain ⟨H', eH⟩ : ∃ H' : Hp, H' = upd (upd (upd H c' (.ext (codφ c' qual))) T (.tbl #[rawInt pos.line, rawInt pos.col, .ref c'])) h'.objs.size (.ext (lamφ h'.objs.size c' qual params body lsc clos ((X.mg "__name__").getD .none))) := ⟨_, rfl⟩
    have e1 : H' h'.objs.size = some (.ext (lamφ h'.objs.size c' qual params body lsc clos ((X.mg "__name__").getD .none))) := by rw [eH, upd_same]
    have e2 : H' T = some (.tbl #[rawInt pos.line, rawInt pos.col, .ref c']) := by rw [eH, upd_ne (Ne.symm hfT), upd_same]
    have e3 : H' c' = some (.ext (codφ c' qual)) := by rw [eH, upd_ne (Ne.symm hfc), upd_ne hcT, upd_same]
    have e4 : ∀ b, b ≠ h'.objs.size → b ≠ T → b ≠ c' → H' b = H b := fun b h1 h2 h3 => by rw [eH, upd_ne h1, upd_ne h2, upd_ne h3]
    have hH : ∀ b u, b ≠ T → H b = some u → H' b = some u := fun b u hb e => by rw [e4 b (ne_of_none e hfn) hb (ne_of_none e hcn)]; exact e
    have hok' : HOk X.prog X.w H' (h'.push ob) := fun a o e => by
      by_cases h1 : a = h'.objs.size
      · subst h1
        rw [e1] at e; cases e
        exact lam_ok (ctv := ctv) (by rw [hob]; exact hf2)
      by_cases h2 : a = T
      · subst h2
        rw [e2] at e; cases e
        exact hT2
      by_cases h3 : a = c'
      · subst h3
        rw [e3] at e; cases e
        exact cod_ok hr2
      rw [e4 a h1 h2 h3] at e
      exact I.hok.stays e h2 ⟨_, hT⟩ kk hH
    have un : Un X.fs [] H H' s.heap (h'.push ob) := by
      refine ⟨fun b o e n _ _ => kk b o (fun z => by rw [z, hT] at n; cases n) e, fun b o e n _ _ => ⟨o.slots, kk b o (fun z => by rw [z, hT] at n; cases n) e⟩, fun b o e n _ => ?_, fun b o e _ => ?_, fun b xs e => hH b _ (fun z => by rw [z, hT] at e; cases e) e, fun b o u e => hH b _ (fun z => by rw [z, hT] at e; cases e) e, fun b ps e => ?_⟩
      · have hl := Heap.lt_size e
        rw [e4 b (fun z => by rw [z] at hl; exact absurd (Nat.lt_trans (Nat.lt_of_le_of_lt hge hlt) hl) (Nat.lt_irrefl _)) (fun z => by rw [z, hT] at n; cases n) (fun z => by rw [z] at hl; exact absurd hl (Nat.not_lt_of_le hge))]
        exact n
      · by_cases hb : b = T
        · exact ⟨_, hb ▸ hT2⟩
        · exact ⟨o, kk b o hb e⟩
      · by_cases hb : b = T
        · subst hb
          rw [hT] at e; cases e
          exact ⟨#[rawInt pos.line, rawInt pos.col, .ref c'], by rw [e2]; rfl⟩
        · exact ⟨#[], by rw [hH b _ hb e]; simp⟩
    refine ⟨.ref h'.objs.size, H', I.un un hok', rfl, q h'.objs.size c' H' hfn (by simp [tL, hfT, hfc]) ⟨hcT, e2, e3⟩ (fun b o e => ?_) e1⟩
    have hb : b ≠ T := fun z => by rw [lef_in (by rw [z]; exact List.mem_cons_self)] at e; cases e
    rw [lef_ne (by simpa [tL] using hb)] at e
    have hbc : b ≠ c' := ne_of_none e hcn
    rw [lef_ne (by simp [tL, hb, hbc])]
    exact hH b o hb e
  | some c' =>
    obtain ⟨hcT, hT, hc'⟩ := hT
    have hTs : s.heap.get? T = some (PySem.W.tabObj #[rawInt pos.line, rawInt pos.col, .ref c']) := I.hok T _ hT
    have hrec : s.heap.CodeRec (.ref c') qual := (I.hok c' _ hc').1
    refine PySem.W.kla_makeFunctionHit (mg := X.mg) (cv := .ref c') hcl I.ok.glob hgs hcode hCs hTs (by unfold rawInt; exact trivial) (by simp [codeAmong, rawInt]) hBs fun ctv h' tk hk hsz => ?_
    have hfn : H h'.objs.size = none := I.hok.fresh hsz
    change EP X pins σ Q (.ref h'.objs.size) { s with heap := h'.push (PySem.W.kla_obj "<lambda>" qual params body lsc clos ((X.mg "__name__").getD .none) c' ctv), toks := tk }
    generalize hob : PySem.W.kla_obj "<lambda>" qual params body lsc clos ((X.mg "__name__").getD .none) c' ctv = ob at *
    have kk : ∀ b u, s.heap.get? b = some u → (h'.push ob).get? b = some u := fun b u e => Heap.get?_push_of_some _ (hk b u e)
    have hf2 : (h'.push ob).get? h'.objs.size = some ob := Heap.get?_push_size _ (by rw [← hob]; rfl)
    have hok' : HOk X.prog X.w (upd H h'.objs.size (.ext (lamφ h'.objs.size c' qual params body lsc clos ((X.mg "__name__").getD .none)))) (h'.push ob) := fun a o e => by
      by_cases h1 : a = h'.objs.size
      · subst h1
        rw [upd_same] at e; cases e
        exact lam_ok (ctv := ctv) (by rw [hob]; exact hf2)
      · rw [upd_ne h1] at e
        refine (I.hok a o e).stay (fun b u _ q => kk b u q) (fun b q => ?_) fun b xs q => ?_
        · rw [upd_ne (ne_of_none q hfn)]; exact q
        · rw [upd_ne (ne_of_none q hfn)]; exact q
    have sn : Same H (upd H h'.objs.size (.ext (lamφ h'.objs.size c' qual params body lsc clos ((X.mg "__name__").getD .none)))) := Same.new hfn
    have hfT : h'.objs.size ≠ T := fun z => by rw [z, hT] at hfn; cases hfn
    have hfc : h'.objs.size ≠ c' := fun z => by rw [z, hc'] at hfn; cases hfn
    exact ⟨.ref h'.objs.size, _, I.un (Un.laid kk hsz hfn) hok', rfl, q h'.objs.size c' _ hfn (by simp [tL, hfT, hfc]) ⟨hcT, sn _ _ hT, sn _ _ hc'⟩ sn.lef upd_same⟩
end
end L2
set_option maxRecDepth 100000
set_option maxHeartbeats 1000000
namespace L2
open PySem PySem.Spec PyProof.Rows
theorem TbI.kind {T : Addr} {pos : Pos} {qual : Str} {o : Option Addr} {H : Hp} (h : TbI T pos qual o H) : ∀ b ∈ tL T o, (∃ ps, H b = some (.tbl ps)) ∨ ∃ φ, H b = some (.ext φ) := fun b hb => by
  cases o with
  | none =>
    have hb : b = T := by simpa [tL] using hb
    exact .inl ⟨_, hb ▸ h⟩
  | some c' =>
    have hb : b = T ∨ b = c' := by simpa [tL] using hb
    rcases hb with rfl | rfl
    · exact .inl ⟨_, h.2.1⟩
    · exact .inr ⟨_, h.2.2⟩
theorem tb_ok {T : Addr} {pos : Pos} {qual : Str} {o : Option Addr} : ZOk (tL T o) (TbI T pos qual o) where
  step := fun h s => by
    cases o with
    | none => exact s _ _ h
    | some c' => exact ⟨h.1, s _ _ h.2.1, s _ _ h.2.2⟩
  notup := fun h b hb xs => by
    rcases h.kind b hb with ⟨ps, e⟩ | ⟨φ, e⟩
    · exact noTup e (fun _ z => by cases z) (fun _ _ z => by cases z) xs
    · exact noTup e (fun _ z => by cases z) (fun _ _ z => by cases z) xs
  free := fun h hp hm => by
    rcases h.kind _ hm with ⟨ps, e⟩ | ⟨φ, e⟩ <;> (rw [e] at hp; cases hp)
theorem ints_nl : ∀ l : List Int, noLs (l.map PyData.int) = true
  | [] => rfl
  | _ :: l => by rw [List.map_cons, noLs, ints_nl l]; rfl
theorem ints_lef {K : PySem.W.Frag} {H : Hp} {T : Addr} {pos : Pos} {qual : Str} {o : Option Addr} {v : V} {ns : List Int} (hT : TbI T pos qual o H) (h : DV K H v (.list (ns.map PyData.int))) : DV K (lef (tL T o) H) v (.list (ns.map PyData.int)) := by
  obtain ⟨l, ys, rfl, hq, dys⟩ := h.of_lst
  have hn : ∀ u : HO, H l = some u → (∀ ps, u ≠ .tbl ps) → (∀ φ, u ≠ .ext φ) → l ∉ tL T o := fun u e n1 n2 hm => by
    rcases hT.kind l hm with ⟨ps, z⟩ | ⟨φ, z⟩
    · rw [e] at z; exact n1 _ (Option.some.inj z)
    · rw [e] at z; exact n2 _ (Option.some.inj z)
  refine .lst ?_ (DVs.lef (tb_ok.notup hT) dys (ints_nl _))
  rcases hq with (hq | ⟨ob, hq⟩) | hq
  · exact .inl (.inl (by rw [lef_ne (hn _ hq (fun _ z => by cases z) (fun _ z => by cases z))]; exact hq))
  · exact .inl (.inr ⟨ob, by rw [lef_ne (hn _ hq (fun _ z => by cases z) (fun _ z => by cases z))]; exact hq⟩)
  · exact .inr hq
def tTb (K : PySem.W.Frag) (T : Addr) (pos : Pos) (qual : Str) (o : Option Addr) (rs : List (Nat × Addr)) (G : Gam) (d : PyData) : TE := fun σ H Q => RZ K (tL T o) (TbI T pos qual o) rs G σ H ∧ ∀ o' v H', TbI T pos qual o' H' → Same (lef (tL T o) H) (lef (tL T o') H') → DV K (lef (tL T o') H') v d → Q v H'
def bestD (o : Option Int) : PyData := match o with
  | none => .none
  | some z => .int z
theorem excI (m : List (Int × Int)) : excC (dI m) = none := by cases m <;> rfl
section
variable {o : Option Addr} {X : Cx} {T c cc : Addr} {pos cpos p p1 p2 p3 kp kp2 dp : Pos} {qual x y : Str} {params : Arguments} {lsc : Scope} {a : Expr} {G : Gam} {rs : List (Nat × Addr)} {ns : List Int} {m : List (Int × Int)} {vs : Int → Int} {jy jd : Nat}
theorem pe_maxKey (hcalm : X.calm = true) (hr : Room 1 X.A) (ha : EV X G a (.list (ns.map PyData.int))) (hg : Gl X "max") (hm : X.mg "max" = none)
    (hcode : X.env.code = .ref c) (hC : PySem.W.CodeHd X.base c T) (hB : X.base.BuiltinsAt X.mg T) (hcl : closureFor lsc X.env = pure [(y, cc)]) (hdef : defaultsOf params X.env = ([], [])) (hq : X.env.qual ++ "<lambda>" = qual)
    (hN : X.N[jy]? = some y) (hGy : G[jy]? = some (some (.dict (dI m)))) (hvis : Vis X.env.scope y) (hky : X.env.kindOf y = some .cell) (hcc : X.env.cells.lookup y = some cc) (hlk : ∀ z ∈ ns, m.lookup z = some (vs z))
    (hbind : ∀ pm c' ctv u, bindArgs (PySem.W.kla_fn "<lambda>" qual params (.Subscript (.Name y p1) (.Name x p2) p3) lsc [(y, cc)] pm (.ref c') ctv) ⟨[u], []⟩ = pure [(x, u)])
    (hk : lsc.kind = .function) (hco : lsc.isCoroutine = false) (hgen : lsc.isGenerator = false) (hnc : ∀ z ∈ lsc.names, z.2 ≠ .cell) (hxl : lsc.names.lookup x = some .local)
    (hx : ∀ L' f c', (PySem.W.envX qual lsc L' f (.ref c') [(y, cc)]).kindOf x = some .local) (hy : ∀ L' f c', (PySem.W.envX qual lsc L' f (.ref c') [(y, cc)]).kindOf y = some .free)
    (hdx : (x == ("__debug__" : Str)) = false := by decide) (hdy : (y == ("__debug__" : Str)) = false := by decide) (hcy : (y == ("__classdict__" : Str)) = false := by decide)
    (hs : starEach [a] X.env = (false, eval a X.env) :: starEach [] X.env := by rfl)
    (hbk : backTo cpos (starEach [a] X.env) = (false, eval a X.env) :: backTo cpos (starEach [] X.env) := by rfl) (hpl : (backTo cpos (starEach [a] X.env)).any (·.1) = false := by rfl)
    (hall : (backToKw cpos (keywordEach [⟨some "key", .Lambda params (.Subscript (.Name y p1) (.Name x p2) p3) lsc pos, kp⟩, ⟨some "default", .Constant .none jd dp, kp2⟩] X.env)).all (·.1.isSome) = true := by rfl) (hkw : (backToKw cpos (keywordEach [⟨some "key", .Lambda params (.Subscript (.Name y p1) (.Name x p2) p3) lsc pos, kp⟩, ⟨some "default", .Constant .none jd dp, kp2⟩] X.env)).any (·.1.isNone) = false := by rfl)
    (hks : (backToKw cpos (keywordEach [⟨some "key", .Lambda params (.Subscript (.Name y p1) (.Name x p2) p3) lsc pos, kp⟩, ⟨some "default", .Constant .none jd dp, kp2⟩] X.env)).filterMap (·.1) = [("key" : Str), "default"] := by rfl) :
    PE X (.Call (.Name "max" p) [a] [⟨some "key", .Lambda params (.Subscript (.Name y p1) (.Name x p2) p3) lsc pos, kp⟩, ⟨some "default", .Constant .none jd dp, kp2⟩] cpos) (tTb X.K T pos qual o rs G (bestD (bestK ns vs))) := by
  intro pins s σ H Q I ⟨r, q⟩
  refine wpAny_Call_Name_kw (ld_blt I hg hm boot_max (PyProof.Rows.callWith_kw (thn (av_cons ha av_nil hs cpos pins s σ H _ I ⟨r.sd, fun vs H' s' dv => (⟨s', dv⟩ : Same H H' ∧ DVs X.K H' vs [.list (ns.map PyData.int)])⟩) fun us s1 ⟨vs1, H1, I1, r1, sm, dv⟩ => ?_) hbk hpl hall hkw))
  obtain ⟨v1, rfl, d1⟩ := dv.one
  have rz1 := r.step tb_ok sm
  refine thn (pk_cons (nm := some "key") (kpos := kp) (pe_lam hcode hC hB hcl hdef hq) (pk_cons (nm := some "default") (kpos := kp2) pe_non pk_nil) cpos pins s1 σ H1 (fun zs H' => ∃ f c', zs = [V.ref f, V.non] ∧ TbI T pos qual (some c') H' ∧ Same (lef (tL T o) H1) (lef (tL T (some c')) H') ∧ H' f = some (.ext (lamφ f c' qual params (.Subscript (.Name y p1) (.Name x p2) p3) lsc [(y, cc)] ((X.mg "__name__").getD .none)))) I1 ⟨rz1.2.1, fun f c' H' hfn hfT hT hS e1 => ⟨f, c', rfl, hT, hS, e1⟩⟩) fun ks s2 ⟨zs, H2, I2, r2, f, c', ez, hT2, hS2, e1⟩ => ?_
  have e2 := hT2.2.2
  subst ez
  have d2 : DV X.K H2 v1 (.list (ns.map PyData.int)) := ((ints_lef rz1.2.1 d1).mono hS2).mono lef_same
  obtain ⟨l, ys, rfl, hq2, dys⟩ := d2.of_lst
  obtain ⟨u1, rfl, ru⟩ := vals1 r1
  have ru : u1 = Value.ref l := ru
  subst ru
  obtain ⟨its, rv, pl, _⟩ := I2.list hq2
  have hkv : ks = [Value.ref f, Value.none] := by
    cases r2 with
    | cons a1 t1 => cases t1 with
      | cons a2 t2 => cases t2 with
        | nil =>
          have b1 : _ = Value.ref f := a1
          have b2 : _ = Value.none := a2
          rw [b1, b2]
  subst hkv
  rw [hks]
  show wpAny _ _ (call (.builtin "max") [.ref l] [("key", .ref f), ("default", .none)]) _ _ s2
  have sd2 : SD X.K (lef (tL T (some c')) H2) σ G := rz1.2.2.mono hS2
  obtain ⟨vy, ey, dy⟩ := sd2.2 jy _ hGy
  obtain ⟨dd, kvs, rfl, hdk, dk⟩ := dy.of_dct (excI m)
  have hdk2 : H2 dd = some (.dK kvs) := lef_same _ _ hdk
  obtain ⟨_, _, ws, rel, dof⟩ := dk_rd I2.hok (.inl hdk2)
  obtain ⟨ctv, hfo⟩ := (I2.hok f _ e1).1
  have hcr : s2.heap.CodeRec (.ref c') qual := (I2.hok c' _ e2).1
  obtain ⟨mm, hnn, hll⟩ := I2.loc
  obtain ⟨uy, ry, lk⟩ := hll jy y (.ref dd) hN ey hvis
  have ry : uy = Value.ref dd := ry
  subst ry
  have hcell : s2.heap.IsCell cc (some (.ref dd)) := by
    rcases lk with ⟨k1, _⟩ | ⟨_, c0, k2, k3⟩
    · rw [hky] at k1; cases k1
    · rw [hcc] at k2; cases k2; exact k3
  refine max_key (vs := vs) (I2.ok.hd hcalm) pl.isList (ints_of dys rv) (fun j t s' Q' E' hj hg' hq' => ?_) fun u h' tk hu kp' => ?_
  · have hz : ns.getD j 0 ∈ ns := by
      rw [List.getD_eq_getElem?_getD, List.getElem?_eq_getElem hj]
      exact List.getElem_mem hj
    have hv := hlk _ hz
    obtain ⟨w', hw, rw'⟩ := RelO.some_of (v := V.int (vs (ns.getD j 0))) (o := valueAt ws (.inl (ns.getD j 0))) (by
      have := rel.val (.inl (ns.getD j 0))
      rw [dk.valI, hv] at this
      exact this)
    obtain ⟨tw, rfl⟩ := rw'
    exact key_raw (by have := hr.dp; show X.A.depth < _; omega) (hg' _ _ hfo) (let ⟨c0, o, vs0, t0, z1, z2, z3⟩ := hcr; ⟨c0, o, vs0, t0, z1, hg' _ _ z2, z3⟩) (I2.nolimit.keeps hg') (let ⟨o, z1, z2⟩ := hcell; ⟨o, hg' _ _ z1, z2⟩) (let ⟨o, es, ep, z1, z2⟩ := dof.mapOf; ⟨o, es, ep, hg' _ _ z1, z2⟩) hw (hbind _ _ _) hk hco hgen hnc hxl (fun L' => hx L' f c') (fun L' => hy L' f c') hdx hdy hcy fun h' tk kk => hq' tw h' tk kk
  · have I3 := I2.kept (t' := tk) kp'
    cases hbk : bestK ns vs with
    | none =>
      rw [hbk] at hu
      have hu : u = Value.none := hu
      subst hu
      exact ⟨.non, H2, I3, rfl, q (some c') _ H2 hT2 ((sm.lef).trans hS2) (by rw [hbk]; exact .non)⟩
    | some z =>
      rw [hbk] at hu
      obtain ⟨tz, rfl⟩ := hu
      exact ⟨.int z, H2, I3, ⟨_, rfl⟩, q (some c') _ H2 hT2 ((sm.lef).trans hS2) (by rw [hbk]; exact .int z)⟩
end
end L2
set_option maxRecDepth 100000
set_option maxHeartbeats 1000000
namespace L2
open PySem PySem.Spec PyProof.Rows
section
variable {prog : Program} {w : World} {KK : Type} [DecidableEq KK] {knd : KeyKind prog w KK} {A : Around} {E : Value → Shared → Prop} {s : Shared}
theorem sd_pairs {d : Addr} {kvs : List (KK × Value)} {k : KK} {key dflt : Value} {Q : Value → Shared → Prop} (hkey : knd.is k key = true) (hm : s.heap.DictOf knd d kvs)
    (hthere : ∀ v, valueAt kvs k = some v → Q v { s with toks := s.toks + 1 })
    (hnew : valueAt kvs k = none → ∀ h', h'.DictOf knd d (stored kvs k dflt) → Heap.SameBut d s.heap h' → Q dflt { s with heap := h', toks := s.toks + 1 }) (hsz : kvs.length ≤ sizeLine) :
    wpAny (model prog w) A (dictSetDefault d key dflt) Q E s := by
  have hmap := hm.mapOf
  obtain ⟨o, es, ep, ho, hc, hd, hk, hp, hn⟩ := hm
  have hf : ∀ x, findBy knd.is es x = valueAt kvs x := by
    obtain ⟨o2, es2, ep2, ho2, _, hd2, _, hf⟩ := hmap
    rw [ho] at ho2; cases ho2
    rw [hd] at hd2; cases hd2
    exact hf
  have hes : es.size ≤ sizeLine := by have e1 := hp.length; have e2 : es.toList.length = es.size := by simp
                                      omega
  unfold dictSetDefault
  try with_reducible refine wpAny_holding ?_
  refine wpAny_bind (knd.pyHash hkey ?_)
  refine wpAny_bind (wpAny_dictFind_of (s := { s with toks := s.toks + 1 }) hkey ho hd hk ?_)
  have hidx : (es.findIdx? fun e => knd.is k e.key) = kvs.findIdx? fun kv => decide (kv.1 = k) := by
    rw [← hp.findIdx k]; obtain ⟨l⟩ := es; simp
  cases hi : es.findIdx? fun e => knd.is k e.key with
  | some i =>
    have hfk : valueAt kvs k = (es[i]?).map (·.val) := by rw [← hf k, findBy_of_findIdx?, hi]
    refine wpAny_bind (wpAny_dictEntries (s := { s with toks := s.toks + 1 }) ho hd ?_)
    cases he : es[i]? with
    | none =>
      exfalso
      have := Array.findIdx?_eq_some_iff_findIdx_eq.mp hi
      have hlt : i < es.size := this.1
      rw [Array.getElem?_eq_getElem hlt] at he
      exact nomatch he
    | some e =>
      rw [he] at hfk
      exact wpAny_bind (wpAny_rule (wpAny_pure (hthere e.val hfk)))
  | none =>
    have hfk : valueAt kvs k = none := by rw [← hf k, findBy_of_findIdx?, hi]
    have hnot : k ∉ kvs.map (·.1) := not_mem_of_findIdx_none (hidx ▸ hi)
    have hany : ¬ (kvs.any fun kv => decide (kv.1 = k)) = true := by
      rw [List.any_eq_true]; rintro ⟨kv, hkv, he⟩
      exact hnot (List.mem_map.mpr ⟨kv, hkv, of_decide_eq_true he⟩)
    refine wpAny_bind (wpAny_rule (wpAny_bind (wpAny_updateDictKeys (hz := hes) (s := { s with toks := s.toks + 1 }) ho hd (wpAny_pure (hnew hfk _ ⟨_, _, ep + 1, Heap.get?_update_self _ ho (Obj.isFreed_of_dict (Obj.data_mapDictKeys hd _)),
      hc.mapDictKeys _, Obj.data_mapDictKeys hd _, hk.push hkey _, ?_, ?_⟩ (Heap.SameBut.update ..))))))
    · rw [stored, if_neg hany]
      have := hp.append hkey (knd.hash k) dflt
      obtain ⟨l⟩ := es
      simpa using this
    · rw [stored, if_neg hany, List.map_append, List.nodup_append]
      refine ⟨hn, by simp, ?_⟩
      intro a ha b hb
      simp only [List.map_cons, List.map_nil, List.mem_singleton] at hb
      subst hb
      exact fun e => hnot (e ▸ ha)
theorem meets_sd {d : Addr} {k : KK} {key : Value} (hkey : knd.is k key = true) (hd : (d == sysModules) = false) (dflt : Value) :
    MeetsIn prog w (Builtin.«dict.setdefault» ⟨[.ref d, key, dflt], []⟩) (fun _ R s => ∃ kvs, s.heap.DictOf knd d kvs ∧ kvs.length ≤ sizeLine ∧
      (∀ v, valueAt kvs k = some v → R (.ok (.ret v)) { s with toks := s.toks + 1 }) ∧
      (valueAt kvs k = none → ∀ h', h'.DictOf knd d (stored kvs k dflt) → Heap.SameBut d s.heap h' → R (.ok (.ret dflt)) { s with heap := h', toks := s.toks + 1 })) :=
  .of_wp fun A R s ⟨kvs, hm, hz, h1, h2⟩ => by
    unfold Builtin.«dict.setdefault»
    refine wpAny_bind ?_
    unfold Builtin.Dict.keyAndDefault
    refine wpAny_bind (wpAny_notOrdered_dict hm.typeIs ?_)
    show wpAny _ _ (pure (d, key, some dflt)) _ _ s
    refine wpAny_pure ?_
    show wpAny _ _ (if (d == sysModules) = true then _ else (dictSetDefault d key dflt >>= _)) _ _ s
    rw [if_neg (by rw [hd]; exact Bool.false_ne_true)]
    exact wpAny_bind (sd_pairs hkey hm (fun v hv => wpAny_pure ⟨v, rfl, h1 v hv⟩) (fun hn h' hm' hs' => wpAny_pure ⟨dflt, rfl, h2 hn h' hm' hs'⟩) hz)
end
def tDSd (td ty tx : TE) : TE := fun σ H Q => td σ H fun x H1 => ∃ a, x = .ref a ∧ IsD H1 a ∧ ty σ H1 fun y H2 => tx σ H2 fun z H3 => ∃ kvs k, H3 a = some (.dK kvs) ∧ y = kV k ∧ kvs.length < sizeLine ∧
  (∀ v, valV kvs k = some v → Q v H3) ∧ (valV kvs k = none → Q z (upd H3 a (.dK (putK kvs k z))))
section
variable {X : Cx} {o e f : Expr} {apos cpos : Pos} {td ty tx : TE}
theorem pe_dsetdef (ho : PE X o td) (he : PE X e ty) (hf : PE X f tx) (m : M2 X o "setdefault" apos e f cpos) : PE X (.Call (.Attribute o "setdefault" apos) [e, f] [] cpos) (tDSd td ty tx) := by
  intro pins s σ H Q I h
  refine wpAny_Call_method m.base m.few m.line PySem.F.plainAttrs_dict PySem.F.slot_dict_setdefault PySem.F.type_dict_setdefault (thn (ho pins s σ H _ I h) fun u s1 ⟨x, H1, I1, rx, a, ex, d, q1⟩ => ?_)
  subst ex
  obtain rfl : u = Value.ref a := rx
  obtain ⟨t1, t2, _⟩ := isD_at I1 d
  refine ⟨t1, t2, ?_⟩
  rw [m.trees]
  refine Calls.callWith_builtin rfl (Calls.evalArgs_plain (Calls.spliced_cons (thn (he pins s1 σ H1 _ I1 q1) fun iv s2 ⟨y, H2, I2, ry, q2⟩ =>
    Calls.spliced_cons (thn (hf pins s2 σ H2 _ I2 q2) fun fv s3 ⟨z, H3, I3, rz, kvs, k, ea, ey, hl, q3, q4⟩ => Calls.spliced_nil ?_))))
  subst ey
  obtain ⟨zz, hd, vs, rel, dd⟩ := dk_of I3.hok ea
  have hz : vs.length ≤ sizeLine := by rw [← rel.length]; exact zz
  refine call_meetsIn PySem.F.slot_dict_setdefault dd.typeIs PySem.F.entry_dict_setdefault (PySem.F.args_dict_setdefault_3 _ _ _) (meets_sd (knd := mixKind X.prog X.w) (kV_is ry) hd fv) ⟨vs, dd, hz, fun v hv => ?_, fun hn h' dd' hs => ?_⟩
  · have r1 := rel.val k
    rw [hv] at r1
    cases e0 : valV kvs k with
    | none => rw [e0] at r1; exact r1.elim
    | some v0 =>
      rw [e0] at r1
      exact ⟨v0, H3, I3.tok _, r1, q3 v0 e0⟩
  · have r1 := rel.val k
    rw [hn] at r1
    cases e0 : valV kvs k with
    | some v0 => rw [e0] at r1; exact r1.elim
    | none =>
      have hl2 : (putK kvs k z).length ≤ sizeLine := by have := length_putK kvs k z; omega
      have heo : ∃ q, h'.get? a = some q := let ⟨q, _, _, hq, _⟩ := dd'; ⟨q, hq⟩
      exact ⟨z, _, d_write I3 (by rw [ea]; exact True.intro) hs heo (dk_new hl2 hd (rel.put k rz) dd'), rz, q4 e0⟩
end
end L2
set_option maxRecDepth 100000
set_option maxHeartbeats 1000000
namespace L2
open PySem PySem.Spec PyProof.Rows
structure CoT where
  T : Addr
  pos : Pos
  qual : Str
abbrev CoT.L (t : CoT) (o : Option Addr) : List Addr := tL t.T o
abbrev CoT.I (t : CoT) (o : Option Addr) : Hp → Prop := TbI t.T t.pos t.qual o
def spTb (K : PySem.W.Frag) (t : CoT) (F : List PyData → PyData → Prop) : Sp := fun vs H Q _ => ∃ (o : Option Addr) (ds : List PyData) (d : PyData), t.I o H ∧ DVs K (lef (t.L o) H) vs ds ∧ F ds d ∧
  ∀ o' v H', t.I o' H' → Same (lef (t.L o) H) (lef (t.L o') H') → DV K (lef (t.L o') H') v d → Q v H'
def TbFn (P : Program) (w : World) (K : PySem.W.Frag) (mg : Str → Option Value) (base : Heap) (k : Nat) (t : CoT) (x : Str) (F : List PyData → PyData → Prop) : Prop :=
  ∃ f fd ps, FnOk P w K mg base CX0 k f fd ps (spTb K t F) ∧ mg x = some (.ref f) ∧ PySem.W.keepIn K (.ref f) = true ∧ Binds K fd ps []
def TbM (P : Program) (w : World) (K : PySem.W.Frag) (mg : Str → Option Value) (base : Heap) (k : Nat) (t : CoT) (C : Addr) (m : Str) (F : List PyData → PyData → Prop) : Prop :=
  ∃ f fd ps, FnOk P w K mg base CX0 k f fd ps (spTb K t F) ∧ Meth K C m f ∧ Binds K fd ps []
abbrev RtT (K : PySem.W.Frag) (t : CoT) (d : PyData) : List Addr → V → Hp → Prop := fun L' v H' => ∃ o', L' = t.L o' ∧ t.I o' H' ∧ DV K (lef L' H') v d
section
variable {P : Program} {w : World} {K : PySem.W.Frag} {mg : Str → Option Value} {base : Heap}
theorem tbOk {f : Addr} {fd : FuncData} {x qual : Str} {st : Stmt} {N ps : List Str} {k : Nat} {t : CoT} {F : List PyData → PyData → Prop} (F0 : Fun K x qual st f fd) (S : FnScope N ps (defScope st)) (len : ∀ ds d, F ds d → ds.length = ps.length)
    (hbody : ∀ (cdv : Value) (A : Around) (outer : List Env) (s : Shared) (H : Hp) (E : XK) (o : Option Addr) (ds : List PyData) (d : PyData), fd.code = cdv → Room k (A.deeper (envOfC qual (defScope st) s.heap.objs.size f cdv)) → F ds d →
      PSs (cxOf CX0 P w K mg base N qual (defScope st) f cdv A outer s H E).nox (defBody st) (zV K (t.L o) (t.I o) [] (startG N ds) (fun _ _ _ => False) (RtT K t d))) : FnOk P w K mg base CX0 (k + 1) f fd ps (spTb K t F) := by
  obtain ⟨oc, od, kV, doc, pm, an, cdv, ct, osl, rfl, lk, hcd⟩ := F0.ex
  refine fn_of lk hcd S (fun vs H Q E ⟨o, ds, d, _, h2, h3, _⟩ => h2.length.trans (len ds d h3)) fun A outer s H vs Q E hr ⟨o, ds, d, h1, h2, h3, q⟩ => ?_
  refine ⟨_, (hbody cdv A outer s H E o ds d rfl hr h3).nox, ⟨(fun _ h => by cases h), h1, SD.start h2⟩, fun _ _ _ f => f.elim, fun L' v H' ⟨o', e, i', dv⟩ s' => by subst e; exact q o' v H' i' s' dv⟩
end
section
variable {X : Cx} {t : CoT} {o : Option Addr} {rs : List (Nat × Addr)} {G : Gam} {e : Expr} {es : List Expr} {d : PyData} {ds : List PyData} {k i j : Nat} {C : Addr} {x y m f : Str} {pos p1 p4 pos2 apos : Pos} {sts : List Stmt} {Nx : List Addr → St → Hp → Prop} {fls : List (PyData × PyData)}
abbrev tCo (K : PySem.W.Frag) (t : CoT) (o : Option Addr) (rs : List (Nat × Addr)) (G : Gam) (d : PyData) : TE := tTb K t.T t.pos t.qual o rs G d
theorem zv_retTb (h : PE X e (tCo X.K t o rs G d)) : PSs X (.Return (some e) pos :: sts) (zV X.K (t.L o) (t.I o) rs G Nx (RtT X.K t d)) :=
  (pss_cons (ps_ret h) (pss_never (sts := sts))).imp fun D σ H ⟨r, _, q⟩ => ⟨r, fun o' v H' i' s' dv => q _ v H' ⟨o', rfl, i', dv⟩ s'⟩
theorem ps_setTb (hN : X.N.Nodup) (hj : X.N[j]? = some y) (hj0 : j ∉ rs.map (·.1)) (hy : Loc X.env.scope y) (h : PE X e (tCo X.K t o rs G d))
    (hs : swapsWith e (some (.Name y p1)) p4.line X.env = pure false := by rfl)
    (hfn : X.fn y = true ∨ X.env.scope.names.lookup y = some .local := by first | exact .inl rfl | exact .inr rfl | assumption) :
    PS X (.Assign [.Name y p1] e p4) (zV X.K (t.L o) (t.I o) rs G (fun L' σ' H' => ∃ o', True ∧ L' = t.L o' ∧ RZ X.K (t.L o') (t.I o') rs (G.set j (some d)) σ' H') noRt) :=
  (ps_set hN hj hy h hs hfn).imp fun D σ H ⟨r, q1, _⟩ => ⟨r, fun o' v H' i' s' dv => q1 _ _ _ ⟨o', True.intro, rfl, fun z hz => by
    rw [List.getElem?_set_ne fun w => hj0 (List.mem_map.mpr ⟨z, hz, w.symm⟩)]
    exact r.1 z hz, i', (r.2.2.mono s').set dv⟩ s'⟩
theorem pe_methTb {F : List PyData → PyData → Prop} {pl : Sem Bool} (cl : Cls X.K C) (D : TbM X.prog X.w X.K X.mg X.base k t C m F) (hr : Room k X.A) (hv : PE X (.Name x pos2) (tVar i)) (hG : G[i]? = some (some (objD C fls))) (ha : ZA X (t.L o) (t.I o) rs G (e :: es) ds (t.I o)) (hF : F (objD C fls :: ds) d) (h1 : m ∉ fldsAll := by decide)
    (hst : starEach (e :: es) X.env = (false, eval e X.env) :: starEach es X.env := by rfl) (hpl : (backTo pos (starEach es X.env)).any (·.1) = false := by rfl)
    (ht : eval (.Call (.Attribute (.Name x pos2) m apos) (e :: es) [] pos) X.env = (do
      let ov ← eval (.Name x pos2) X.env
      standAt apos.atName
      let (f, first) ← holding [ov] (getMethod ov m pl)
      callWith pos f first (backTo pos (starEach (e :: es) X.env)) (backToKw pos (keywordEach [] X.env))) := by rfl) :
    PE X (.Call (.Attribute (.Name x pos2) m apos) (e :: es) [] pos) (tCo X.K t o rs G d) := by
  obtain ⟨f, fd, ps, ok, hm, hb⟩ := D
  refine (pe_meth (E := E0) (dvs := []) (ds := []) hv cl hm ok hr hb .nil pass0 ha hst hpl ht).imp fun σ H Q ⟨r, q⟩ => ?_
  obtain ⟨v, ev, dv⟩ := r.2.2.2 i _ hG
  obtain ⟨a, dx, fs, rfl, ho, _, hnm⟩ := dv.of_objN
  refine ⟨.ref a, ev, a, dx, fs, rfl, lef_same _ _ ho, hnm m h1, r, fun vs H1 i1 s1 dvs => ?_⟩
  show spTb X.K t F (V.ref a :: (vs ++ [])) H1 Q E0
  rw [List.append_nil]
  exact ⟨o, objD C fls :: ds, d, i1, .cons (dv.mono s1) dvs, hF, fun o' v H' i' s' dv' => q o' v H' i' (s1.trans s') dv'⟩
end
section
variable {X : Cx} {L : List Addr} {rs : List (Nat × Addr)} {G Gv : Gam} {a : Expr} {ds : List PyData} {j : Nat} {pos : Pos} {α : Type} {Iv : α → Hp → Prop} {T : α} {Nx : List Addr → St → Hp → Prop} {Rt : List Addr → V → Hp → Prop}
theorem zv_forF {tg : Expr} {body sts : List Stmt} (W : Nat → Gam → α → Prop) (ok : ∀ T, ZOk L (Iv T)) (hp : PassesOwn (model X.prog X.w) X.A X.env X.xe) (hcalm : X.calm = true) (hj : ∀ q ∈ rs, q.1 ≠ j) (hg : PG X tg (gName j)) (v : Sees X.K L (Iv T) rs G Gv) (ha : EVF X Gv a ds) (hnl : noLs ds = true) (h0 : W 0 G T)
    (hs : ∀ k d G T, ds[k]? = some d → W k G T → PSs X body (zV X.K L (Iv T) rs (G.set j (some d)) (fun L' σ' H' => L' = L ∧ ∃ G' T', W (k + 1) G' T' ∧ RZ X.K L (Iv T') rs G' σ' H') Rt))
    (hd : ∀ G T, W ds.length G T → PSs X sts (zV X.K L (Iv T) rs G Nx Rt))
    (hfs : ∀ y, foldedSetIterable a X.env y = pure y := by intro _; rfl) :
    PSs X (.For tg a body [] pos :: sts) (zV X.K L (Iv T) rs G Nx Rt) := by
  have hbody : PSs X body (fun D σ H => ∃ (k : Nat) (d : PyData) (G : Gam) (T : α), ds[k]? = some d ∧ W k G T ∧ RZ X.K L (Iv T) rs (G.set j (some d)) σ H ∧ (∀ σ' H' G' T', W (k + 1) G' T' → RZ X.K L (Iv T') rs G' σ' H' → Same (lef L H) (lef L H') → D.nx σ' H') ∧ ∀ L' v H', Rt L' v H' → Same (lef L H) (lef L' H') → D.rt v H') := by
    intro pins s σ H D I ⟨k, d, G, T, hk, hW, r, q, q2⟩
    exact hs k d G T hk hW pins s σ H D I ⟨r, fun L' σ' H' ⟨e, G', T', hW', r'⟩ s' => by subst e; exact q σ' H' G' T' hW' r' s', q2⟩
  have h2 : PSs X sts (fun D σ H => ∃ (G : Gam) (T : α), W ds.length G T ∧ zV X.K L (Iv T) rs G Nx Rt D σ H) := fun pins s σ H D I ⟨G, T, hW, q⟩ => hd G T hW pins s σ H D I q
  refine (pss_cons (ps_for hp hcalm (pi_list ha) hg hbody hfs) h2).imp fun D σ H ⟨r, q1, q2⟩ => ⟨v σ H r, fun p us H1 hp s1 hl dv => ?_⟩
  have r1 := r.step (ok _) s1
  have hpL : p ∉ L := (ok _).free r.2.1 hp
  have hlL : SqL X.K (lef L H1) p us := SqL.of (by rw [lef_ne hpL]; exact hl)
  have dL : DVs X.K (lef L H1) us ds := DVs.lef ((ok _).notup r1.2.1) dv hnl
  have hul : us.length = ds.length := dL.length
  refine ⟨p, rfl, ⟨us, SqL.of hl⟩, ?_⟩
  refine for_list (K := X.K) (a := p) (xs := us) (g := gName j) (tb := fun D σ H => ∃ (k : Nat) (d : PyData) (G : Gam) (T : α), ds[k]? = some d ∧ W k G T ∧ RZ X.K L (Iv T) rs (G.set j (some d)) σ H ∧ (∀ σ' H' G' T', W (k + 1) G' T' → RZ X.K L (Iv T') rs G' σ' H' → Same (lef L H) (lef L H') → D.nx σ' H') ∧ ∀ L' v H', Rt L' v H' → Same (lef L H) (lef L' H') → D.rt v H')
    (fun k σ2 H2 => ∃ G T, W k G T ∧ RZ X.K L (Iv T) rs G σ2 H2 ∧ Same (lef L H1) (lef L H2)) ⟨G, T, h0, r1, Same.refl _⟩ (fun i σ2 H2 _ ⟨_, _, _, _, sm⟩ => lef_same.seq (sm.seq hlL)) (fun k z σ2 H2 hz ⟨G2, T2, hW, r2, sm⟩ => ?_) (fun σ2 H2 ⟨G2, T2, hW, r2, sm⟩ => ?_)
  · obtain ⟨d0, ed, dz⟩ := dL.get' hz
    refine ⟨k, d0, G2, T2, ed, hW, ⟨fun q hq => ?_, r2.2.1, r2.2.2.set (dz.mono sm)⟩, fun σ3 H3 G3 T3 hW3 r3 s3 => ⟨G3, T3, hW3, r3, sm.trans s3⟩, fun L' v H3 n3 s3 => q2 L' v H3 n3 ((s1.lef.trans sm).trans s3)⟩
    rw [List.getElem?_set_ne (hj q hq).symm]
    exact r2.1 q hq
  · rw [hul] at hW
    exact ⟨G2, T2, hW, r2, fun L' σ' H' n s => q1 L' σ' H' n ((s1.lef.trans sm).trans s), fun L' v H' n s => q2 L' v H' n ((s1.lef.trans sm).trans s)⟩
end
end L2
set_option maxRecDepth 100000
set_option maxHeartbeats 1000000
namespace L2
open PySem PySem.Spec PyProof.Rows
abbrev Led := List (Int × List (Int × Int))
def inn (m : Led) (p : Int) : List (Int × Int) := (m.lookup p).getD []
def ledD (m : Led) : List (PyData × PyData) := m.map fun q => (.int q.1, .dict (dI q.2))
abbrev ctD (C : Addr) (m : Led) : PyData := objD C [(.str "led", .dict (ledD m))]
theorem led_exc (m : Led) : excC (ledD m) = none := by cases m <;> rfl
theorem DVk.valLed {K : PySem.W.Frag} {H : Hp} (z : Int) : ∀ {kvs : List (Key × V)} {m : Led}, DVk K H kvs (ledD m) → (m.lookup z = none → valV kvs (.inl z) = none) ∧ ∀ l, m.lookup z = some l → ∃ v, valV kvs (.inl z) = some v ∧ DV K H v (.dict (dI l))
  | _, [], h => by
    cases h
    exact ⟨fun _ => rfl, fun l e => by cases e⟩
  | _, q :: m, h => by
    unfold ledD at h
    rw [List.map_cons] at h
    generalize hk : PyData.int q.1 = kd at h
    cases h with
    | cons dv t =>
      rename_i k x xs
      have ek : k = .inl q.1 := by
        cases k with
        | inl i => injection hk with e; rw [e]
        | inr s => cases hk
      subst ek
      have ih := DVk.valLed z (m := m) t
      by_cases hz : q.1 = z
      · subst hz
        refine ⟨fun e => ?_, fun l e => ?_⟩
        · rw [List.lookup_cons] at e
          simp at e
        · rw [List.lookup_cons] at e
          simp at e
          subst e
          exact ⟨x, by simp [valV], dv⟩
      · have e1 : List.lookup z (q :: m) = m.lookup z := by
          rw [List.lookup_cons]
          simp [show (z == q.1) = false from by simpa using Ne.symm hz]
        have e2 : valV ((.inl q.1, x) :: xs) (.inl z) = valV xs (.inl z) := by
          simp [valV, hz]
        rw [e1, e2]
        exact ih
section
variable {X : Cx} {L : List Addr} {I : Hp → Prop} {rs : List (Nat × Addr)} {G : Gam} {a : Expr} {i : Nat} {C : Addr} {m : Led} {z : Int} {x : Str} {pos pos2 p5 apos dpos : Pos}
theorem ze_ledGet (ok : ZOk L I) (hu : X.A.units + 1 < cLine) (cl : Cls X.K C) (na : NoAttr X.K C "led") (hv : PE X (.Name x pos2) (tVar i)) (hG : G[i]? = some (some (ctD C m))) (hi : EV X G a (.int z))
    (m2 : M2 X (.Attribute (.Name x pos2) "led" p5) "get" apos a (.Dict [] [] dpos) pos) (hb : attributeBase (.Name x pos2) "led" X.env (eval (.Name x pos2) X.env) = eval (.Name x pos2) X.env := by rfl) :
    ZE X L I rs G (.Call (.Attribute (.Attribute (.Name x pos2) "led" p5) "get" apos) [a, .Dict [] [] dpos] [] pos) (.dict (dI (inn m z))) I :=
  (pe_dget2 hu (pe_fld hv hb) hi pe_dnewK m2).imp fun σ H Q ⟨r, q⟩ => by
    obtain ⟨v, ev, dv⟩ := r.2.2.2 i _ hG
    obtain ⟨ad, dx, fs, rfl, ho, hf, _⟩ := dv.of_objN
    obtain ⟨u, eu, du⟩ := hf.get List.mem_cons_self
    obtain ⟨D, kvs, rfl, hD, dk⟩ := du.of_dct (led_exc m)
    refine ⟨.ref ad, ev, ad, C, dx, fs, .ref D, rfl, lef_same _ _ ho, cl, na, eu, D, rfl, .inl ⟨kvs, .inl (lef_same _ _ hD)⟩, r.sd, fun w H1 s1 d1 p hp => ?_⟩
    have e1 := d1.of_int
    subst e1
    have sn : Same H1 (upd H1 p (.dK [])) := Same.new hp
    have r1 := r.step ok s1
    have hpL : p ∉ L := ok.free r1.2.1 hp
    have r2 := r1.step ok sn
    have dk2 := (dk.mono s1.lef).mono sn.lef
    obtain ⟨h1, h2⟩ := dk2.valLed z
    refine ⟨_, DGet.k (k := .inl z) (sn _ _ (s1 _ _ (lef_same _ _ hD))), ?_⟩
    cases e : m.lookup z with
    | none =>
      rw [h1 e]
      refine q _ _ r2.2.1 (s1.lef.trans sn.lef) ?_
      unfold inn
      rw [e]
      exact .dct (by rw [lef_ne hpL]; exact upd_same) .nil
    | some l =>
      obtain ⟨vl, ev, dvl⟩ := h2 l e
      rw [ev]
      refine q _ _ r2.2.1 (s1.lef.trans sn.lef) ?_
      unfold inn
      rw [e]
      exact dvl
end
end L2
set_option maxRecDepth 100000
set_option maxHeartbeats 1000000
namespace L2
open PySem PySem.Spec PyProof.Rows
structure CtR where
  a : Addr
  dx : Addr
  D : Addr
  ins : List Addr
abbrev CtR.L (R : CtR) : List Addr := R.a :: R.dx :: R.D :: R.ins
def intK (l : List (Int × Int)) : List (Key × V) := l.map fun q => ((.inl q.1 : Key), V.int q.2)
inductive InK (H : Hp) : List (Key × V) → Led → List Addr → Prop where
  | nil : InK H [] [] []
  | cons {p : Int} {l : List (Int × Int)} {kvs : List (Key × V)} {m : Led} {b : Addr} {ins : List Addr} : H b = some (.dK (intK l)) → InK H kvs m ins → InK H ((.inl p, .ref b) :: kvs) ((p, l) :: m) (b :: ins)
def CtZ (C : Addr) (R : CtR) (m : Led) (H : Hp) : Prop := H R.a = some (.ins C R.dx [("led", .ref R.D)]) ∧ H R.dx = some (.own R.a) ∧ R.L.Nodup ∧ ∃ kvs, H R.D = some (.dK kvs) ∧ InK H kvs m R.ins
theorem InK.mono {H H' : Hp} : ∀ {kvs : List (Key × V)} {m : Led} {ins : List Addr}, InK H kvs m ins → (∀ b ∈ ins, ∀ o, H b = some o → H' b = some o) → InK H' kvs m ins
  | _, _, _, .nil, _ => .nil
  | _, _, _, .cons h t, k => .cons (k _ List.mem_cons_self _ h) (t.mono fun b hb => k b (List.mem_cons_of_mem _ hb))
theorem InK.isD {H : Hp} : ∀ {kvs : List (Key × V)} {m : Led} {ins : List Addr}, InK H kvs m ins → ∀ b ∈ ins, ∃ l, H b = some (.dK l)
  | _, _, _, .nil, b, hb => by cases hb
  | _, _, _, .cons h t, b, hb => by
    rcases List.mem_cons.mp hb with rfl | hb
    · exact ⟨_, h⟩
    · exact t.isD b hb
theorem InK.len {H : Hp} : ∀ {kvs : List (Key × V)} {m : Led} {ins : List Addr}, InK H kvs m ins → kvs.length = m.length
  | _, _, _, .nil => rfl
  | _, _, _, .cons _ t => by rw [List.length_cons, List.length_cons, t.len]
theorem InK.val {H : Hp} (z : Int) : ∀ {kvs : List (Key × V)} {m : Led} {ins : List Addr}, InK H kvs m ins → (m.lookup z = none → valV kvs (.inl z) = none) ∧ ∀ l, m.lookup z = some l → ∃ b, b ∈ ins ∧ valV kvs (.inl z) = some (.ref b) ∧ H b = some (.dK (intK l))
  | _, _, _, .nil => ⟨fun _ => rfl, fun l e => by cases e⟩
  | _, _, _, .cons (p := p) (l := l0) (m := m) (kvs := kvs) (b := b) h t => by
    have ih := t.val z
    by_cases hz : p = z
    · subst hz
      refine ⟨fun e => ?_, fun l e => ?_⟩
      · rw [List.lookup_cons] at e; simp at e
      · rw [List.lookup_cons] at e; simp at e; subst e
        exact ⟨b, List.mem_cons_self, valV_pos rfl, h⟩
    · have e1 : List.lookup z ((p, l0) :: m) = m.lookup z := by
        rw [List.lookup_cons]
        simp [show (z == p) = false from by simpa using Ne.symm hz]
      have e2 : valV ((.inl p, V.ref b) :: kvs) (.inl z : Key) = valV kvs (.inl z) := valV_neg fun e => hz (Sum.inl.inj e)
      rw [e1, e2]
      exact ⟨ih.1, fun l e => let ⟨b, h1, h2, h3⟩ := ih.2 l e; ⟨b, List.mem_cons_of_mem _ h1, h2, h3⟩⟩
theorem CtZ.kind {C : Addr} {R : CtR} {m : Led} {H : Hp} (h : CtZ C R m H) : ∀ b ∈ R.L, (∃ fs, H b = some (.ins C R.dx fs)) ∨ (∃ x, H b = some (.own x)) ∨ ∃ kvs, H b = some (.dK kvs) := fun b hb => by
  obtain ⟨h1, h2, _, kvs, h3, h4⟩ := h
  rcases List.mem_cons.mp hb with rfl | hb
  · exact .inl ⟨_, h1⟩
  rcases List.mem_cons.mp hb with rfl | hb
  · exact .inr (.inl ⟨_, h2⟩)
  rcases List.mem_cons.mp hb with rfl | hb
  · exact .inr (.inr ⟨_, h3⟩)
  · exact .inr (.inr (h4.isD b hb))
theorem CtZ.move {C : Addr} {R : CtR} {m : Led} {H H' : Hp} (h : CtZ C R m H) (k : ∀ b ∈ R.L, ∀ o, H b = some o → H' b = some o) : CtZ C R m H' := by
  obtain ⟨h1, h2, h5, kvs, h3, h4⟩ := h
  exact ⟨k _ List.mem_cons_self _ h1, k _ (List.mem_cons_of_mem _ List.mem_cons_self) _ h2, h5, kvs, k _ (List.mem_cons_of_mem _ (List.mem_cons_of_mem _ List.mem_cons_self)) _ h3, h4.mono fun b hb => k b (List.mem_cons_of_mem _ (List.mem_cons_of_mem _ (List.mem_cons_of_mem _ hb)))⟩
theorem ct_ok {C : Addr} {R : CtR} {m : Led} : ZOk R.L (CtZ C R m) where
  step := fun h s => h.move fun b _ o e => s _ _ e
  notup := fun h b hb xs => by
    rcases h.kind b hb with ⟨_, e⟩ | ⟨_, e⟩ | ⟨_, e⟩ <;> exact noTup e (fun _ z => by cases z) (fun _ _ z => by cases z) xs
  free := fun h hp hm => by
    rcases h.kind _ hm with ⟨_, e⟩ | ⟨_, e⟩ | ⟨_, e⟩ <;> (rw [e] at hp; cases hp)
theorem ct_ap {C : Addr} {R : CtR} {m : Led} {H : Hp} {M : List Addr} (h : CtZ C R m H) (dj : Dj M R.L) : CtZ C R m (lef M H) := h.move fun b hb o e => by
  rw [lef_ne fun z => dj b z hb]
  exact e
theorem InK.dvk {K : PySem.W.Frag} {H : Hp} : ∀ {kvs : List (Key × V)} {m : Led} {ins : List Addr}, InK H kvs m ins → DVk K H kvs (ledD m)
  | _, _, _, .nil => .nil
  | _, _, _, .cons (l := l) h t => .cons (.dct h (DVk.intsK l)) t.dvk
theorem CtZ.dv {K : PySem.W.Frag} {C : Addr} {R : CtR} {m : Led} {H : Hp} (h : CtZ C R m H) : DV K H (.ref R.a) (ctD C m) := by
  obtain ⟨h1, h2, _, kvs, h3, h4⟩ := h
  refine .obj h1 (fun f hf => ?_) (.cons (show List.lookup ("led" : Str) [("led", V.ref R.D)] = some (.ref R.D) by simp) (.dct h3 h4.dvk) .nil)
  have hn : f ≠ "led" := fun e => hf (by rw [e]; decide)
  rw [List.lookup_cons, show (f == ("led" : Str)) = false from by simpa using hn]
  rfl
def putL (m : Led) (p : Int) (l : List (Int × Int)) : Led := if (m.lookup p).isSome = true then m.map (fun q => if q.1 = p then (q.1, l) else q) else m ++ [(p, l)]
def noteM (m : Led) (p t : Int) : Led := putL m p (putI (inn m p) t (getI (inn m p) t + 1))
theorem putK_int (l : List (Int × Int)) (t n : Int) : putK (intK l) (.inl t) (.int n) = intK (putI l t n) := by
  have hany : ((intK l).any fun kv => decide (kv.1 = (.inl t : Key))) = hasI l t := by
    unfold intK hasI
    rw [List.any_map]
    refine congrArg (List.any l) (funext fun q => ?_)
    show decide ((Sum.inl q.1 : Key) = .inl t) = decide (q.1 = t)
    by_cases h : q.1 = t
    · rw [decide_eq_true h, decide_eq_true (by rw [h])]
    · rw [decide_eq_false h, decide_eq_false fun e => h (Sum.inl.inj e)]
  unfold putK putI
  rw [hany]
  by_cases h : hasI l t = true
  · rw [if_pos h, if_pos h]
    unfold intK
    rw [List.map_map, List.map_map]
    refine List.map_congr_left fun q _ => ?_
    show (if (Sum.inl q.1 : Key) = .inl t then _ else _) = ((.inl (if q.1 = t then (q.1, n) else q).1 : Key), V.int (if q.1 = t then (q.1, n) else q).2)
    by_cases hq : q.1 = t
    · rw [if_pos (by rw [hq]), if_pos hq]
    · rw [if_neg fun e => hq (Sum.inl.inj e), if_neg hq]
  · rw [if_neg h, if_neg h]
    unfold intK
    rw [List.map_append]
    rfl
end L2
set_option maxRecDepth 100000
set_option maxHeartbeats 1000000
namespace L2
open PySem PySem.Spec PyProof.Rows
structure Ge (it : Zt) : Prop where
  ok : ZOk it.1 it.2
  ap : ∀ {H : Hp} {M : List Addr}, it.2 H → Dj M it.1 → (∀ b ∈ M, ∀ xs, ¬ Rd H b (.tup xs)) → it.2 (lef M H)
abbrev Ges (its : List Zt) : Prop := ∀ it ∈ its, Ge it
theorem Ges.ok {its : List Zt} (g : Ges its) : ZOk (LZ its) (TZ its) := tz_ok fun it h => (g it h).ok
theorem tz_chE {A B : List Zt} {it it' : Zt} {H H' : Hp} (g : Ges (A ++ it :: B)) (t : TZ (A ++ it :: B) H) (s : Same (lef it.1 H) (lef it'.1 H')) (i' : it'.2 H') : TZ (A ++ it' :: B) H' ∧ Same (lef (LZ (A ++ it :: B)) H) (lef (LZ (A ++ it' :: B)) H') := by
  obtain ⟨dj, i, p, al⟩ := TZ.mid.mp t
  have gi := g it (mem_mid.mpr (.inl rfl))
  have key : ∀ z ∈ A ++ B, z.2 (lef it'.1 H') := fun z hz => by
    have gz := g z (mem_mid.mpr (.inr hz))
    exact gz.ok.step (gz.ap (al z hz) (dj z hz) fun b hb xs => gi.ok.notup i b hb xs) s
  refine ⟨TZ.mid.mpr ⟨fun z hz b hb hbz => (g z (mem_mid.mpr (.inr hz))).ok.free (key z hz) (lef_in hb) hbz, i', p, fun z hz => (g z (mem_mid.mpr (.inr hz))).ok.step (key z hz) lef_same⟩, fun b o e => ?_⟩
  have nb : b ∉ LZ (A ++ it :: B) := fun z => by rw [lef_in z] at e; cases e
  rw [lef_ne nb] at e
  have e2 := s b o (by rw [lef_ne fun z => nb (mem_LZ.mpr ⟨it, mem_mid.mpr (.inl rfl), z⟩)]; exact e)
  have n2 : b ∉ it'.1 := fun z => by rw [lef_in z] at e2; cases e2
  rw [lef_ne n2] at e2
  rw [lef_ne]
  · exact e2
  · intro z
    obtain ⟨y, hy, hb⟩ := mem_LZ.mp z
    rcases mem_mid.mp hy with rfl | hy
    · exact n2 hb
    · exact nb (mem_LZ.mpr ⟨y, mem_mid.mpr (.inr hy), hb⟩)
theorem tz_newE {A B : List Zt} {it' : Zt} {H H' : Hp} (g : Ges (A ++ B)) (t : TZ (A ++ B) H) (s : Same H (lef it'.1 H')) (i' : it'.2 H') : TZ (A ++ it' :: B) H' ∧ Same (lef (LZ (A ++ B)) H) (lef (LZ (A ++ it' :: B)) H') := by
  have key : ∀ z ∈ A ++ B, z.2 (lef it'.1 H') := fun z hz => (g z hz).ok.step (t.2 z hz) s
  refine ⟨TZ.mid.mpr ⟨fun z hz b hb hbz => (g z hz).ok.free (key z hz) (lef_in hb) hbz, i', t.1, fun z hz => (g z hz).ok.step (key z hz) lef_same⟩, fun b o e => ?_⟩
  have nb : b ∉ LZ (A ++ B) := fun z => by rw [lef_in z] at e; cases e
  rw [lef_ne nb] at e
  have e2 := s b o e
  have n2 : b ∉ it'.1 := fun z => by rw [lef_in z] at e2; cases e2
  rw [lef_ne n2] at e2
  rw [lef_ne]
  · exact e2
  · intro z
    obtain ⟨y, hy, hb⟩ := mem_LZ.mp z
    rcases mem_mid.mp hy with rfl | hy
    · exact n2 hb
    · exact nb (mem_LZ.mpr ⟨y, hy, hb⟩)
theorem tz_in {its : List Zt} {it it2 : Zt} {A B : List Zt} {H : Hp} (e : its = A ++ it :: B) (t : TZ its H) (g : Ges its) (h2 : it2 ∈ A ++ B) : it2.2 (lef it.1 H) := by
  subst e
  obtain ⟨dj, i, p, al⟩ := TZ.mid.mp t
  exact (g it2 (mem_mid.mpr (.inr h2))).ap (al it2 h2) (dj it2 h2) fun b hb xs => (g it (mem_mid.mpr (.inl rfl))).ok.notup i b hb xs
theorem ge_R {p : Addr} {us : List V} : Ge ([p], Rf p us) := ⟨gd_R.ok, gd_R.ap⟩
theorem ge_C {C : Addr} {R : CtR} {m : Led} : Ge (R.L, CtZ C R m) := ⟨ct_ok, fun h dj _ => ct_ap h dj⟩
theorem ge_T {t : CoT} {o : Option Addr} : Ge (t.L o, t.I o) := ⟨tb_ok, fun {H M} h dj _ => by
  have k : ∀ b ∈ t.L o, ∀ u, H b = some u → lef M H b = some u := fun b hb u e => by rw [lef_ne fun z => dj b z hb]; exact e
  cases o with
  | none => exact k t.T List.mem_cons_self _ h
  | some c' => exact ⟨h.1, k _ List.mem_cons_self _ h.2.1, k _ (List.mem_cons_of_mem _ List.mem_cons_self) _ h.2.2⟩⟩
def Pz (d : Addr) (nm : List ((Int × Int) × Int)) (H : Hp) : Prop := H d = some (.dT (ppK nm))
theorem ge_P {d : Addr} {nm : List ((Int × Int) × Int)} : Ge ([d], Pz d nm) where
  ok := ⟨fun h s => s _ _ h, fun h b hb xs => by rw [List.mem_singleton.mp hb]; exact noTup h (fun _ z => by cases z) (fun _ _ z => by cases z) xs, fun h hp hm => by rw [List.mem_singleton.mp hm, show _ = _ from h] at hp; cases hp⟩
  ap := fun h dj nt => by
    show lef _ _ d = _
    rw [lef_ne fun z => dj d z List.mem_cons_self]
    exact h
section
variable {X : Cx} {rs : List (Nat × Addr)} {Gv : Gam} {a c : Expr} {ds : List PyData} {j : Nat} {pos : Pos} {β : Type} {Lo : β → List Addr} {Io : β → Hp → Prop} {Go : β → Gam} {Nx : List Addr → St → Hp → Prop} {Rt : List Addr → V → Hp → Prop}
theorem zv_forFE {tg : Expr} {body sts : List Stmt} (W : Nat → β → Prop) (y0 : β) (ok : ∀ y, ZOk (Lo y) (Io y)) (hp : PassesOwn (model X.prog X.w) X.A X.env X.xe) (hcalm : X.calm = true) (hj : ∀ q ∈ rs, q.1 ≠ j) (hg : PG X tg (gName j)) (v : Sees X.K (Lo y0) (Io y0) rs (Go y0) Gv) (ha : EVF X Gv a ds) (hnl : noLs ds = true) (h0 : W 0 y0)
    (hs : ∀ k d y, ds[k]? = some d → W k y → PSs X body (zV X.K (Lo y) (Io y) rs ((Go y).set j (some d)) (fun L' σ' H' => ∃ y', W (k + 1) y' ∧ L' = Lo y' ∧ RZ X.K (Lo y') (Io y') rs (Go y') σ' H') Rt))
    (hd : ∀ y, W ds.length y → PSs X sts (zV X.K (Lo y) (Io y) rs (Go y) Nx Rt))
    (hfs : ∀ y, foldedSetIterable a X.env y = pure y := by intro _; rfl) :
    PSs X (.For tg a body [] pos :: sts) (zV X.K (Lo y0) (Io y0) rs (Go y0) Nx Rt) := by
  have hbody : PSs X body (fun D σ H => ∃ (k : Nat) (d : PyData) (y : β), ds[k]? = some d ∧ W k y ∧ zV X.K (Lo y) (Io y) rs ((Go y).set j (some d)) (fun L' σ' H' => ∃ y', W (k + 1) y' ∧ L' = Lo y' ∧ RZ X.K (Lo y') (Io y') rs (Go y') σ' H') Rt D σ H) := fun pins s σ H D I ⟨k, d, y, hk, hW, q⟩ => hs k d y hk hW pins s σ H D I q
  have h2 : PSs X sts (fun D σ H => ∃ (y : β), W ds.length y ∧ zV X.K (Lo y) (Io y) rs (Go y) Nx Rt D σ H) := fun pins s σ H D I ⟨y, hW, q⟩ => hd y hW pins s σ H D I q
  refine (pss_cons (ps_for hp hcalm (pi_list ha) hg hbody hfs) h2).imp fun D σ H ⟨r, q1, q2⟩ => ⟨v σ H r, fun p us H1 hp s1 hl dv => ?_⟩
  have r1 := r.step (ok _) s1
  have hpL : p ∉ Lo y0 := (ok _).free r.2.1 hp
  have hlL : SqL X.K (lef (Lo y0) H1) p us := SqL.of (by rw [lef_ne hpL]; exact hl)
  have dL : DVs X.K (lef (Lo y0) H1) us ds := DVs.lef ((ok _).notup r1.2.1) dv hnl
  have hul : us.length = ds.length := dL.length
  refine ⟨p, rfl, ⟨us, SqL.of hl⟩, ?_⟩
  refine for_list (K := X.K) (a := p) (xs := us) (g := gName j) (tb := fun D σ H => ∃ (k : Nat) (d : PyData) (y : β), ds[k]? = some d ∧ W k y ∧ zV X.K (Lo y) (Io y) rs ((Go y).set j (some d)) (fun L' σ' H' => ∃ y', W (k + 1) y' ∧ L' = Lo y' ∧ RZ X.K (Lo y') (Io y') rs (Go y') σ' H') Rt D σ H)
    (fun k σ2 H2 => ∃ y, W k y ∧ RZ X.K (Lo y) (Io y) rs (Go y) σ2 H2 ∧ Same (lef (Lo y0) H1) (lef (Lo y) H2)) ⟨y0, h0, r1, Same.refl _⟩ (fun i σ2 H2 _ ⟨_, _, _, sm⟩ => lef_same.seq (sm.seq hlL)) (fun k z σ2 H2 hz ⟨y, hW, r2, sm⟩ => ?_) (fun σ2 H2 ⟨y, hW, r2, sm⟩ => ?_)
  · obtain ⟨d0, ed, dz⟩ := dL.get' hz
    refine ⟨k, d0, y, ed, hW, ⟨fun q hq => ?_, r2.2.1, r2.2.2.set (dz.mono sm)⟩, fun L' σ3 H3 ⟨y', hW3, el, r3⟩ s3 => ⟨y', hW3, r3, sm.trans (el ▸ s3)⟩, fun L' v H3 n3 s3 => q2 L' v H3 n3 ((s1.lef.trans sm).trans s3)⟩
    rw [List.getElem?_set_ne (hj q hq).symm]
    exact r2.1 q hq
  · rw [hul] at hW
    exact ⟨y, hW, r2, fun L' σ' H' n s => q1 L' σ' H' n ((s1.lef.trans sm).trans s), fun L' v H' n s => q2 L' v H' n ((s1.lef.trans sm).trans s)⟩
theorem zv_forRgE {tg : Expr} {body sts : List Stmt} {n : Nat} {p2 p3 : Pos} (W : Nat → β → Prop) (y0 : β) (ok : ∀ y, ZOk (Lo y) (Io y)) (hp : PassesOwn (model X.prog X.w) X.A X.env X.xe) (hcalm : X.calm = true) (hj : ∀ q ∈ rs, q.1 ≠ j) (hg : PG X tg (gName j)) (v : Sees X.K (Lo y0) (Io y0) rs (Go y0) Gv) (hc : EV X Gv c (.int n)) (hn : n < 1000) (hgr : Gl X "range") (hmr : X.mg "range" = none) (h0 : W 0 y0)
    (hs : ∀ k y, k < n → W k y → PSs X body (zV X.K (Lo y) (Io y) rs ((Go y).set j (some (.int (k : Int)))) (fun L' σ' H' => ∃ y', W (k + 1) y' ∧ L' = Lo y' ∧ RZ X.K (Lo y') (Io y') rs (Go y') σ' H') Rt))
    (hd : ∀ y, W n y → PSs X sts (zV X.K (Lo y) (Io y) rs (Go y) Nx Rt))
    (hsr : starEach [c] X.env = [(false, eval c X.env)] := by rfl) (hfs : ∀ y, foldedSetIterable (.Call (.Name "range" p2) [c] [] p3) X.env y = pure y := by intro _; rfl) :
    PSs X (.For tg (.Call (.Name "range" p2) [c] [] p3) body [] pos :: sts) (zV X.K (Lo y0) (Io y0) rs (Go y0) Nx Rt) := by
  have hbody : PSs X body (fun D σ H => ∃ (k : Nat) (y : β), k < n ∧ W k y ∧ zV X.K (Lo y) (Io y) rs ((Go y).set j (some (.int (k : Int)))) (fun L' σ' H' => ∃ y', W (k + 1) y' ∧ L' = Lo y' ∧ RZ X.K (Lo y') (Io y') rs (Go y') σ' H') Rt D σ H) := fun pins s σ H D I ⟨k, y, hk, hW, q⟩ => hs k y hk hW pins s σ H D I q
  have h2 : PSs X sts (fun D σ H => ∃ (y : β), W n y ∧ zV X.K (Lo y) (Io y) rs (Go y) Nx Rt D σ H) := fun pins s σ H D I ⟨y, hW, q⟩ => hd y hW pins s σ H D I q
  refine (pss_cons (ps_for hp hcalm (pi_range1 hgr hmr (av_cons hc av_nil hsr) hsr) hg hbody hfs) h2).imp fun D σ H ⟨r, q1, q2⟩ => ⟨v σ H r, fun vs H1 s1 d1 => ?_⟩
  obtain ⟨v1, rfl, dv1⟩ := d1.one
  refine ⟨n, by rw [dv1.of_int], by omega, by omega, ?_⟩
  rw [Int.toNat_natCast]
  have r1 := r.step (ok _) s1
  refine for_range (lo := 0) (n := n) (g := gName j) (tb := fun D σ H => ∃ (k : Nat) (y : β), k < n ∧ W k y ∧ zV X.K (Lo y) (Io y) rs ((Go y).set j (some (.int (k : Int)))) (fun L' σ' H' => ∃ y', W (k + 1) y' ∧ L' = Lo y' ∧ RZ X.K (Lo y') (Io y') rs (Go y') σ' H') Rt D σ H)
    (fun k σ2 H2 => ∃ y, W k y ∧ RZ X.K (Lo y) (Io y) rs (Go y) σ2 H2 ∧ Same (lef (Lo y0) H1) (lef (Lo y) H2)) ⟨y0, h0, r1, Same.refl _⟩ (fun k σ2 H2 hk ⟨y, hW, r2, sm⟩ => ?_) (fun σ2 H2 ⟨y, hW, r2, sm⟩ => ?_)
  · refine ⟨k, y, hk, hW, ⟨fun z hz => ?_, r2.2.1, ?_⟩, fun L' σ3 H3 ⟨y', hW3, el, r3⟩ s3 => ⟨y', hW3, r3, sm.trans (el ▸ s3)⟩, fun L' v H3 n3 s3 => q2 L' v H3 n3 ((s1.lef.trans sm).trans s3)⟩
    · rw [List.getElem?_set_ne (hj z hz).symm]
      exact r2.1 z hz
    · rw [Int.zero_add]; exact r2.2.2.set (.int _)
  · exact ⟨y, hW, r2, fun L' σ' H3 n3 s3 => q1 L' σ' H3 n3 ((s1.lef.trans sm).trans s3), fun L' v H3 n3 s3 => q2 L' v H3 n3 ((s1.lef.trans sm).trans s3)⟩
end
section
variable {X : Cx} {L : List Addr} {I : Hp → Prop} {rs : List (Nat × Addr)} {G : Gam} {c e : Expr} {pos : Pos} {A sts : List Stmt} {β : Type} {Lo : β → List Addr} {Io : β → Hp → Prop} {Nx : List Addr → St → Hp → Prop} {Rt : List Addr → V → Hp → Prop}
def zTE (K : PySem.W.Frag) (L : List Addr) (I : Hp → Prop) (rs : List (Nat × Addr)) (G : Gam) (k : Bool) (Lo : β → List Addr) (Io : β → Hp → Prop) : TT := fun σ H Q => RZ K L I rs G σ H ∧ ∀ y H', Io y H' → Same (lef L H) (lef (Lo y) H') → Q k H'
theorem rz_at {K : PySem.W.Frag} {L L' : List Addr} {I I' : Hp → Prop} {σ : St} {H H' : Hp} (r : RZ K L I rs G σ H) (i' : I' H') (s : Same (lef L H) (lef L' H')) : RZ K L' I' rs G σ H' := ⟨r.1, i', r.2.2.mono s⟩
theorem zv_ifFE (h : PT X c (zTE X.K L I rs G false Lo Io)) (h2 : ∀ y, PSs X sts (zV X.K (Lo y) (Io y) rs G Nx Rt)) : PSs X (.If c A [] pos :: sts) (zV X.K L I rs G Nx Rt) := by
  have h2' : PSs X sts (fun D σ H => ∃ y, zV X.K (Lo y) (Io y) rs G Nx Rt D σ H) := fun pins s σ H D I ⟨y, q⟩ => h2 y pins s σ H D I q
  exact (pss_cons (ps_if h (pss_never (sts := A)) pss_nil) h2').imp fun D σ H ⟨r, q1, q2⟩ => ⟨r, fun y H' i' s' => iteF ⟨y, rz_at r i' s', fun L2 σ2 H2 n s2 => q1 L2 σ2 H2 n (s'.trans s2), fun L2 v H2 n s2 => q2 L2 v H2 n (s'.trans s2)⟩⟩
def zEE (K : PySem.W.Frag) (L : List Addr) (I : Hp → Prop) (rs : List (Nat × Addr)) (G : Gam) (k : Bool) (Lo : β → List Addr) (Io : β → Hp → Prop) : TE := fun σ H Q => RZ K L I rs G σ H ∧ ∀ y H', Io y H' → Same (lef L H) (lef (Lo y) H') → Q (.bl k) H'
theorem zte_not {k : Bool} (h : PE X e (zEE X.K L I rs G k Lo Io)) (he : ∀ whole, isTrue e X.env whole = (do let v ← whole; standAt e.pos; holding [v] (truthy v)) := by intro _; rfl) : PT X (.UnaryOp .Not e pos) (zTE X.K L I rs G (!k) Lo Io) :=
  (pt_not (pt_val h he)).imp fun σ H Q ⟨r, q⟩ => ⟨r, fun y H' i' s' => ⟨k, rfl, q y H' i' s'⟩⟩
end
end L2
set_option maxRecDepth 100000
set_option maxHeartbeats 1000000
namespace L2
open PySem PySem.Spec PyProof.Rows
section
variable {X : Cx} {its : List Zt} {rs : List (Nat × Addr)} {G : Gam} {β : Type} {P : β → Prop} {Lo : β → List Addr} {Io : β → Hp → Prop} {ad : β → Addr} {e e2 : Expr} {j : Nat} {y : Str} {pos2 p1 p4 : Pos}
def tNew2 (P : β → Prop) (Lo : β → List Addr) (Io : β → Hp → Prop) (ad : β → Addr) : TE := fun σ H Q => ∀ w H', P w → Io w H' → Same H (lef (Lo w) H') → Q (.ref (ad w)) H'
theorem ges_app {A B : List Zt} (g : Ges A) (g2 : Ges B) : Ges (A ++ B) := fun z hz => (List.mem_append.mp hz).elim (g z) (g2 z)
theorem ges_one {it : Zt} (g : Ge it) : Ges [it] := fun z hz => by rw [List.mem_singleton.mp hz]; exact g
theorem tz_end {its : List Zt} {it' : Zt} {H H' : Hp} (g : Ges its) (t : TZ its H) (s : Same H (lef it'.1 H')) (i' : it'.2 H') : TZ (its ++ [it']) H' ∧ Same (lef (LZ its) H) (lef (LZ (its ++ [it'])) H') := by
  have t0 : TZ (its ++ []) H := by rw [List.append_nil]; exact t
  have g0 : Ges (its ++ []) := by rw [List.append_nil]; exact g
  obtain ⟨t1, s1⟩ := tz_newE (it' := it') g0 t0 s i'
  rw [List.append_nil] at s1
  exact ⟨t1, s1⟩
theorem ps_newTwo (g : Ges its) (gy : ∀ y, Ge (Lo y, Io y)) (hN : X.N.Nodup) (hj : X.N[j]? = some y) (hj0 : j ∉ rs.map (·.1)) (hy : Loc X.env.scope y) (hG : G[j]? = some none) (h : PE X e (tNew2 P Lo Io ad)) (h' : PE X e2 (tNew2 P Lo Io ad))
    (hs0 : starEach [e, e2] X.env = (false, eval e X.env) :: starEach [e2] X.env := by rfl) (hs1 : starEach [e2] X.env = (false, eval e2 X.env) :: starEach [] X.env := by rfl)
    (hs : swapsWith (.List [e, e2] pos2) (some (.Name y p1)) p4.line X.env = pure false := by rfl)
    (hfn : X.fn y = true ∨ X.env.scope.names.lookup y = some .local := by first | exact .inl rfl | exact .inr rfl | assumption) :
    PS X (.Assign [.Name y p1] (.List [e, e2] pos2) p4) (zV X.K (LZ its) (TZ its) rs G (fun L' σ' H' => ∃ q : Addr × β × β, (P q.2.1 ∧ P q.2.2) ∧ L' = LZ (its ++ [(Lo q.2.1, Io q.2.1)] ++ [(Lo q.2.2, Io q.2.2)] ++ [([q.1], Rf q.1 [.ref (ad q.2.1), .ref (ad q.2.2)])]) ∧
      RZ X.K (LZ (its ++ [(Lo q.2.1, Io q.2.1)] ++ [(Lo q.2.2, Io q.2.2)] ++ [([q.1], Rf q.1 [.ref (ad q.2.1), .ref (ad q.2.2)])])) (TZ (its ++ [(Lo q.2.1, Io q.2.1)] ++ [(Lo q.2.2, Io q.2.2)] ++ [([q.1], Rf q.1 [.ref (ad q.2.1), .ref (ad q.2.2)])])) ((j, q.1) :: rs) G σ' H') noRt) := by
  refine (ps_set hN hj hy (pe_lst (pa_cons h (pa_cons h' pa_nil hs1) hs0)) hs hfn).imp fun D σ H ⟨r, q, _⟩ w H1 hw iw s1 w2 H2 hw2 iw2 s2 => ⟨by rw [sizeLine_eq]; show 2 ≤ 16777216; decide, fun pl hpl => ?_⟩
  obtain ⟨t1, s1'⟩ := tz_end (it' := (Lo w, Io w)) g r.2.1 s1 iw
  have g1 := ges_app g (ges_one (gy w))
  obtain ⟨t2, s2'⟩ := tz_end (it' := (Lo w2, Io w2)) g1 t1 s2 iw2
  have g2 := ges_app g1 (ges_one (gy w2))
  have sn : Same H2 (lef [pl] (upd H2 pl (.lst [.ref (ad w), .ref (ad w2)]))) := fun c o ec => by
    rw [lef_ne (by simpa using ne_of_none ec hpl), upd_ne (ne_of_none ec hpl)]
    exact ec
  obtain ⟨t3, s3'⟩ := tz_end (it' := ([pl], Rf pl [.ref (ad w), .ref (ad w2)])) g2 t2 sn (show upd H2 pl _ pl = _ from upd_same)
  have sT := (s1'.trans s2').trans s3'
  refine q _ _ _ ⟨(pl, w, w2), ⟨hw, hw2⟩, rfl, fun z hz => ?_, t3, sd_slot (r.2.2.mono sT) hG⟩ sT
  rcases List.mem_cons.mp hz with e | hz
  · subst e
    exact List.getElem?_set_self (by rw [r.2.2.1]; exact (List.getElem?_eq_some_iff.mp hG).1)
  · rw [List.getElem?_set_ne fun w => hj0 (List.mem_map.mpr ⟨z, hz, w.symm⟩)]
    exact r.1 z hz
theorem pe_newP {pos : Pos} : PE X (.Dict [] [] pos) (tNew2 (fun _ : Addr => True) (fun d => [d]) (fun d => Pz d []) id) := pe_dnewT.imp fun σ H Q q p hp => q p _ True.intro (show upd H p _ p = _ from upd_same) fun c o ec => by
  rw [lef_ne (by simpa using ne_of_none ec hp), upd_ne (ne_of_none ec hp)]
  exact ec
end
def wF (L : List Addr) (I : Hp → Prop) (b : Addr) (o : HO) (H : Hp) : Prop := I H ∧ lef L H b = some o
theorem wF_ok {L : List Addr} {I : Hp → Prop} {b : Addr} {o : HO} (ok : ZOk L I) : ZOk L (wF L I b o) := ⟨fun h s => ⟨ok.step h.1 s, s.lef _ _ h.2⟩, fun h => ok.notup h.1, fun h => ok.free h.1⟩
section
variable {X : Cx} {its A B : List Zt} {L : List Addr} {I : Hp → Prop} {rs : List (Nat × Addr)} {G : Gam} {us : List V} {p d b : Addr} {i j js : Nat} {z : Int} {x : Str} {ho : HO} {o o2 ek ek2 bx : Expr} {nm nm' : List ((Int × Int) × Int)} {pos pos2 p1 p2 p3 p4 p5 p6 apos : Pos} {st : Stmt} {Nx : List Addr → St → Hp → Prop}
theorem zv_wF (h : PS X st (zV X.K L I rs G Nx noRt)) : PS X st (zV X.K L (wF L I b ho) rs G (fun L' σ' H' => Nx L' σ' H' ∧ lef L' H' b = some ho) noRt) :=
  h.imp fun D σ H ⟨r, q1, q2⟩ => ⟨⟨r.1, r.2.1.1, r.2.2⟩, fun L' σ' H' n s => q1 L' σ' H' ⟨n, s _ _ r.2.1.2⟩ s, q2⟩
theorem zv_mono {Nx' : List Addr → St → Hp → Prop} (h : PS X st (zV X.K L I rs G Nx noRt)) (hn : ∀ L' σ' H', Nx L' σ' H' → Nx' L' σ' H') : PS X st (zV X.K L I rs G Nx' noRt) := zv_weak hn h
theorem pe_refZ (ok : ZOk L I) (hI : ∀ H, I H → H p = some (.lst us)) {v : V} (hi : (i, p) ∈ rs) (hv : PE X (.Name x pos2) (tVar i)) (hb : EV X G bx (.int z)) (he : atI us z = some v) (hs : PlainIx bx := by intro _ _; rfl) : PE X (.Subscript (.Name x pos2) bx pos) (tAt X.K L I rs G v) :=
  pe_refAt ok hi hI hv hb he hs
theorem ps_cntP {pa pb : Int} (hE : its = A ++ ([d], Pz d nm) :: B) (g : Ges its) (hL : L = LZ its) (hu : X.A.units + 1 < cLine) (h1 : PE X o (tAt X.K L (wF L (TZ its) b (.tup [.int pa, .int pb])) rs G (.ref d))) (h2 : PE X o2 (tAt X.K L (wF L (TZ its) b (.tup [.int pa, .int pb])) rs G (.ref d)))
    (hi : (i, b) ∈ rs) (hk : PE X ek (tVar i)) (hk2 : PE X ek2 (tVar i)) (hl : nm.length < 1000)
    (hput : putK (ppK nm) [.inl pa, .inl pb] (.int (rdG nm pa pb + 1)) = ppK nm') (m2 : M2 X o2 "get" apos ek2 (.Constant (.int 0) js p5) p6)
    (hsw : swapsWith (.BinOp (.Call (.Attribute o2 "get" apos) [ek2, .Constant (.int 0) js p5] [] p6) .Add (.Constant (.int 1) j p3) p2) (some (.Subscript o ek p1)) p4.line X.env = pure false := by rfl) :
    PS X (.Assign [.Subscript o ek p1] (.BinOp (.Call (.Attribute o2 "get" apos) [ek2, .Constant (.int 0) js p5] [] p6) .Add (.Constant (.int 1) j p3) p2) p4) (zN X.K L (wF L (TZ its) b (.tup [.int pa, .int pb])) rs G G (TZ (A ++ ([d], Pz d nm') :: B))) := by
  subst hL
  refine (ps_dput hu h1 hk (pe_op op_add (pe_dget2 hu h2 hk2 pe_int m2) pe_int) hsw).imp fun D σ H ⟨r, q⟩ => ?_
  have hin : ([d], Pz d nm) ∈ its := by rw [hE]; exact mem_mid.mpr (.inl rfl)
  have hd : ∀ H, TZ its H → H d = some (.dT (ppK nm)) := fun H t => t.2 _ hin
  refine ⟨r, fun H1 r1 s1 => ⟨d, rfl, .inr ⟨_, .inl (hd _ r1.2.1.1)⟩, .ref b, r1.1 _ hi, ?_⟩⟩
  refine ⟨_, DGet.t (k := [.inl pa, .inl pb]) (hd _ r1.2.1.1) (lef_same _ _ r1.2.1.2), rdG nm pa pb, 1, ?_, rfl, r1, fun H2 r2 s2 => ⟨.ref b, r2.1 _ hi, d, _, rfl, DPut.t (k := [.inl pa, .inl pb]) (hd _ r2.2.1.1) (lef_same _ _ r2.2.1.2) ?_, ?_⟩⟩
  · rw [valPP]
    unfold rdG
    cases nm.lookup (pa, pb) <;> rfl
  · show (ppK nm).length < _
    unfold ppK
    rw [List.length_map, sizeLine_eq]
    omega
  · rw [hput]
    have t2 := r2.2.1.1
    subst hE
    have eL : Same (lef [d] H2) (lef [d] (upd H2 d (.dT (ppK nm')))) := fun c u e => by
      by_cases hc : c = d
      · subst hc; rw [lef_in List.mem_cons_self] at e; cases e
      · rw [lef_ne (by simpa using hc)] at e ⊢
        rw [upd_ne hc]; exact e
    obtain ⟨t3, s3⟩ := tz_chE (it := ([d], Pz d nm)) (it' := ([d], Pz d nm')) g t2 eL (show upd H2 d _ d = _ from upd_same)
    have e2 : LZ (A ++ ([d], Pz d nm') :: B) = LZ (A ++ ([d], Pz d nm) :: B) := LZ_mid rfl
    rw [e2] at s3
    have sT : Same (lef (LZ (A ++ ([d], Pz d nm) :: B)) H) (lef (LZ (A ++ ([d], Pz d nm) :: B)) (upd H2 d (.dT (ppK nm')))) := (s1.trans s2).lef.trans s3
    exact q _ _ ⟨r2.1, t3, r2.2.2.mono s3⟩ sT
end
end L2
set_option maxRecDepth 100000
set_option maxHeartbeats 1000000
namespace My
open PySem L2
local macro_rules | `(tactic| walk_at "dn") => `(tactic| first | decide | omega)
local macro_rules | `(tactic| walk_at "od") => `(tactic| first
  | exact od_add | exact od_sub | exact od_xor | exact od_lt | exact od_le | exact od_gt | exact od_ge
  | exact od_mod (by walk_at "dn") | exact od_fdiv ⟨by walk_at "dn", by walk_at "dn"⟩
  | exact od_mul (by first | exact Or.inl ⟨by walk_at "dn", by walk_at "dn"⟩ | exact Or.inr ⟨by walk_at "dn", by walk_at "dn"⟩)
  | exact od_pow ⟨by decide, by decide, by decide⟩
  | exact od_catL (by walk_at "sz") | exact od_catT (by simp) (by walk_at "sz")
  | exact od_in (.inl rfl) (by rfl) (by rfl) (by rfl) | exact od_in (.inr rfl) (by rfl) (by rfl) (by rfl)
  | exact od_notIn (.inl rfl) (by rfl) (by rfl) (by rfl) | exact od_notIn (.inr rfl) (by rfl) (by rfl) (by rfl)
  | exact od_eq (by walk_at "un") (by walk_at "cl") (by walk_at "cl") (by walk_at "dp") (by rfl)
  | exact od_ne (by walk_at "un") (by walk_at "cl") (by walk_at "cl") (by walk_at "dp") (by rfl))
local macro_rules | `(tactic| walk_at "sz") => `(tactic| first | decide | (rw [sizeLine_eq]; decide) | (rw [sizeLine_eq]; simp; done) | (rw [sizeLine_eq]; simp; omega) | (rw [sizeLine_eq]; omega))
local macro_rules | `(tactic| walk_at "bf") => `(tactic| (intro h; first | rfl | cases h))
local macro_rules | `(tactic| walk_at "rm") => `(tactic| exact Room.mono (by assumption) (by decide))
local macro_rules | `(tactic| walk_at "un") => `(tactic| exact Room.units (by assumption))
local macro_rules | `(tactic| walk_at "cl") => `(tactic| first | rfl | decide +kernel | (simp [PyData.canLay0, PyData.canLayAll0]; done))
local macro_rules | `(tactic| walk_at "dp") => `(tactic| first | (simp [PyData.depth, PyData.depthAll]; done) | decide)
local macro_rules | `(tactic| walk_at "rg") => `(tactic| first | decide | omega)
local macro_rules | `(tactic| walk_at "at") => `(tactic| first | rfl | exact atI_of (by walk_at "dn") (by rfl) | exact at_ints (by walk_at "dn") (by walk_at "dn"))
local macro_rules | `(tactic| walk_at "cd") => `(tactic| first | exact cd_lenL | exact cd_lenT | exact cd_lenS (by decide) | exact cd_all rfl | exact cd_tupleL | exact cd_listL | exact cd_listT | exact cd_intB | exact cd_max rfl | exact cd_min rfl | exact cd_sum rfl)
local macro_rules | `(tactic| walk_at "fn") => `(tactic| first | exact ⟨_, rfl, rfl⟩ | exact ⟨_, _, rfl, rfl⟩ | exact ⟨_, _, _, rfl, rfl⟩)
def top (i : Nat) : Stmt := PySem.Challenge.pw_likewise_k54_steps_counted.main.body.getD i (.Pass ⟨0, 0, 0, 0⟩)
abbrev s_law_whole : Stmt := top 5
abbrev s_law_step : Stmt := top 6
abbrev s_law_good : Stmt := top 7
abbrev s_law : Stmt := top 8
theorem sc_law_whole : FnScope ["found"] ["found"] (defScope s_law_whole) := ⟨rfl, rfl, rfl, by decide +kernel, rfl, by decide +kernel, by decide +kernel⟩
theorem sc_law_step : FnScope ["draw", "place", "to"] ["draw"] (defScope s_law_step) := ⟨rfl, rfl, rfl, by decide +kernel, rfl, by decide +kernel, by decide +kernel⟩
theorem sc_law_good : FnScope ["counts", "noted", "place", "due", "to", "many", "told", "found"] ["counts", "noted", "place"] (defScope s_law_good) := ⟨rfl, rfl, rfl, by decide +kernel, rfl, by decide +kernel, by decide +kernel⟩
theorem sc_law : FnScope ["script", "both", "noted", "cell", "which", "draw", "turn", "step", "k", "place"] ["script"] (defScope s_law) := ⟨rfl, rfl, rfl, by decide +kernel, rfl, by decide +kernel, by decide +kernel⟩
abbrev s_Counts_init : Stmt := inClass (top 2) 0
theorem sc_Counts_init : FnScope ["self"] ["self"] (defScope s_Counts_init) := ⟨rfl, rfl, rfl, by decide +kernel, rfl, by decide +kernel, by decide +kernel⟩
abbrev s_Counts_note : Stmt := inClass (top 2) 1
theorem sc_Counts_note : FnScope ["self", "place", "to", "led"] ["self", "place", "to"] (defScope s_Counts_note) := ⟨rfl, rfl, rfl, by decide +kernel, rfl, by decide +kernel, by decide +kernel⟩
abbrev s_Counts_often : Stmt := inClass (top 2) 2
theorem sc_Counts_often : FnScope ["self", "place", "to"] ["self", "place", "to"] (defScope s_Counts_often) := ⟨rfl, rfl, rfl, by decide +kernel, rfl, by decide +kernel, by decide +kernel⟩
abbrev s_Counts_guess : Stmt := inClass (top 2) 3
theorem sc_Counts_guess : FnScope ["self", "place", "led"] ["self", "place"] (defScope s_Counts_guess) := ⟨rfl, rfl, rfl, by decide +kernel, rfl, by decide +kernel, by decide +kernel⟩
structure Txt (mg : Str → Option Value) : Prop where
  b_len : mg "len" = none
  b_isinstance : mg "isinstance" = none
  b_int : mg "int" = none
  b_bool : mg "bool" = none
  b_sorted : mg "sorted" = none
  b_max : mg "max" = none
  b_range : mg "range" = none
section
variable {P : Program} {w : World} {K : PySem.W.Frag} {mg : Str → Option Value} {base : Heap}
theorem u1_of {n : Nat} (h : n + 64 < cLine) : n + 1 < cLine := by omega
structure ClsC (K : PySem.W.Frag) (mg : Str → Option Value) (C : Addr) : Prop where
  cl : Cls K C
  n1 : NoAttr K C "led"
  at_ : mg "Counts" = some (.ref C)
theorem ev_ledGet {X : Cx} {G : Gam} {a : Expr} {i : Nat} {C : Addr} {m : Led} {z : Int} {x : Str} {pos pos2 p5 apos dpos : Pos} (hu : X.A.units + 1 < cLine) (cl : Cls X.K C) (na : NoAttr X.K C "led") (hv : PE X (.Name x pos2) (tVar i)) (hG : G[i]? = some (some (ctD C m))) (hi : EV X G a (.int z))
    (m2 : M2 X (.Attribute (.Name x pos2) "led" p5) "get" apos a (.Dict [] [] dpos) pos) (hb : attributeBase (.Name x pos2) "led" X.env (eval (.Name x pos2) X.env) = eval (.Name x pos2) X.env := by rfl) :
    EV X G (.Call (.Attribute (.Attribute (.Name x pos2) "led" p5) "get" apos) [a, .Dict [] [] dpos] [] pos) (.dict (dI (inn m z))) :=
  (ze_ledGet (L := []) (I := fun _ => True) (rs := []) ⟨fun h _ => h, (fun _ b hb => by cases hb), (fun _ _ hm => by cases hm)⟩ hu cl na hv hG hi m2 hb).imp fun σ H Q ⟨h, q⟩ => ⟨⟨fun _ h => (by cases h), True.intro, by rw [lef_nil]; exact h⟩, fun v H' _ s dv => q v H' (by rw [lef_nil, lef_nil] at s; exact s) (by rw [lef_nil] at dv; exact dv)⟩
def F_oft (C : Addr) (ds : List PyData) (d : PyData) : Prop := ∃ (m : Led) (p t : Int), ds = [ctD C m, .int p, .int t] ∧ d = .int (getI (inn m p) t)
theorem m_often {C : Addr} (CC : ClsC K mg C) {f : Addr} {fd : FuncData} (F : Fun K "often" "Counts.often" s_Counts_often f fd) (hm : Meth K C "often" f) : MFn P w K mg base 1 C "often" (F_oft C) := by
  refine F.dataM hm (F.binds fun _ _ _ _ _ _ us hl => match us, hl with | [_, _, _], _ => rfl) sc_Counts_often (fun ds d ⟨_, _, _, e, _⟩ => by rw [e]; rfl) fun cdv A outer s H E ds d hr ⟨m, p, t, e, e2⟩ => ?_
  subst e e2
  exact svs_ret (sv_ret (ev_getI (n := 0) (u1_of (by walk_at "un")) (ev_ledGet (u1_of (by walk_at "un")) CC.cl CC.n1 (pv 0) rfl (ev_var 1 (by rfl) (pv 1)) ⟨rfl, rfl, rfl, rfl⟩) (ev_var 2 (by rfl) (pv 2)) ev_int ⟨rfl, rfl, rfl, rfl⟩))
end
section
variable {P : Program} {w : World} {K : PySem.W.Frag} {mg : Str → Option Value} {base : Heap}
abbrev tb54 (T : Addr) : CoT := ⟨T, ⟨19, 36, 19, 54⟩, "Counts.guess.<locals>.<lambda>"⟩
def guessO (m : Led) (p : Int) : Option Int := bestK (srtI ((inn m p).map (·.1))) (fun z => getI (inn m p) z)
def F_gue (C : Addr) (ds : List PyData) (d : PyData) : Prop := ∃ (m : Led) (p : Int), (inn m p).length < 64 ∧ ds = [ctD C m, .int p] ∧ d = bestD (guessO m p)
theorem mem_srtI {z : Int} : ∀ {l : List Int}, z ∈ srtI l → z ∈ l := fun {l} h => (srtI_mem z l).mp h
theorem look_key {l : List (Int × Int)} {z : Int} (h : z ∈ l.map (·.1)) : l.lookup z = some (getI l z) := by
  unfold getI
  cases e : l.lookup z with
  | some v => rfl
  | none =>
    exfalso
    induction l with
    | nil => cases h
    | cons q l ih =>
      rw [List.lookup_cons] at e
      by_cases hz : z = q.1
      · subst hz; simp at e
      · rw [show (z == q.1) = false from by simpa using hz] at e
        rcases List.mem_cons.mp h with h | h
        · exact hz h
        · exact ih h e
theorem t_guess (T : Txt mg) {C Ta c : Addr} (CC : ClsC K mg C) (hC : PySem.W.CodeHd base c Ta) (hB : base.BuiltinsAt mg Ta) {f : Addr} {fd : FuncData} (F : Fun K "guess" "Counts.guess" s_Counts_guess f fd) (hcd : fd.code = .ref c) (hm : Meth K C "guess" f) : TbM P w K mg base 2 (tb54 Ta) C "guess" (F_gue C) := by
  refine ⟨f, fd, ["self", "place"], tbOk F sc_Counts_guess (fun ds d ⟨_, _, _, e, _⟩ => by rw [e]; rfl) fun cdv A outer s H E o ds d ecd hr ⟨m, p, h64, e, e2⟩ => ?_, hm, F.binds fun _ _ _ _ _ _ us hl => match us, hl with | [_, _], _ => rfl⟩
  subst e e2
  have ecd : cdv = .ref c := ecd.symm.trans hcd
  subst ecd
  obtain ⟨l, el⟩ : ∃ l, l = inn m p := ⟨_, rfl⟩
  unfold guessO
  rw [← el] at h64 ⊢
  refine zv_cons (G1 := [some (ctD C m), some (.int p), some (.dict (dI l))]) (zn_set (i := 2) (d := .dict (dI l)) sc_Counts_guess.nd rfl (by show 2 ∉ []; decide) (by first | exact Or.inl rfl | exact Or.inr rfl) (by rw [el]; exact ze_ledGet tb_ok (u1_of (by walk_at "un")) CC.cl CC.n1 (pv 0) rfl (ev_var 1 (by rfl) (pv 1)) ⟨rfl, rfl, rfl, rfl⟩)) ?_
  have ek : (dI l).map (fun q => intOf q.1) = l.map (·.1) := by unfold dI; rw [List.map_map]; rfl
  refine zv_retTb (pe_maxKey (m := l) (c := c) (jy := 2) rfl (by walk_at "rm") (ev_eq (evf_ev (evf_sortedD rfl (ev_var 2 (by rfl) (pv 2)) (fun q hq => ?_) (dI_exc l) (by unfold dI; rw [List.length_map]; exact h64) rfl T.b_sorted)) (by rw [ek])) rfl T.b_max rfl hC hB rfl rfl rfl rfl rfl (Or.inr (Or.inl rfl)) rfl rfl (fun z hz => look_key (mem_srtI hz)) (fun _ _ _ _ => rfl) rfl rfl rfl (by decide) rfl (fun _ _ _ => rfl) (fun _ _ _ => rfl))
  obtain ⟨q0, _, rfl⟩ := List.mem_map.mp hq
  exact ⟨_, rfl⟩
end
section
variable {P : Program} {w : World} {K : PySem.W.Frag} {mg : Str → Option Value} {base : Heap}
def stepK (c : Int → Int) (b n : Int) : Int := if c n > c b then n else b
theorem upK_fold (l : List Int) (c : Int → Int) : ∀ (k j : Nat) (b : Int), j + k = l.length → upK (fun i => l.getD i 0) c b j k = (l.drop j).foldl (stepK c) b
  | 0, j, b, h => by
    rw [List.drop_eq_nil_of_le (by omega)]
    rfl
  | k + 1, j, b, h => by
    have hj : j < l.length := by omega
    rw [List.drop_eq_getElem_cons hj, List.foldl_cons, upK, upK_fold l c k (j + 1) _ (by omega)]
    have e : l.getD j 0 = l[j] := by rw [List.getD_eq_getElem?_getD, List.getElem?_eq_getElem hj]; rfl
    show (l.drop (j + 1)).foldl (stepK c) (if c (l.getD j 0) > c b then l.getD j 0 else b) = _
    rw [e]
    rfl
theorem bestK_fold (x : Int) (r : List Int) (c : Int → Int) : bestK (x :: r) c = some (r.foldl (stepK c) x) := by
  unfold bestK
  show some (upK (fun i => (x :: r).getD i 0) c x 1 ((x :: r).length - 1)) = _
  rw [upK_fold (x :: r) c ((x :: r).length - 1) 1 x (by rw [List.length_cons]; omega)]
  rfl
def dueS (c : Int → Int) (d : Option Int) (t : Int) : Option Int := match d with
  | none => if c t > 0 then some t else none
  | some u => if c t > 0 ∧ c t > c u then some t else some u
theorem due_some (c : Int → Int) : ∀ (l : List Int) (u : Int), l.foldl (dueS c) (some u) = some ((l.filter fun t => decide (c t > 0)).foldl (stepK c) u)
  | [], u => rfl
  | t :: l, u => by
    rw [List.foldl_cons]
    by_cases h : c t > 0
    · rw [List.filter_cons_of_pos (p := fun t => decide (c t > 0)) (decide_eq_true h), List.foldl_cons]
      by_cases h2 : c t > c u
      · have e1 : dueS c (some u) t = some t := by show (if _ then _ else _) = _; rw [if_pos ⟨h, h2⟩]
        have e2 : stepK c u t = t := by unfold stepK; rw [if_pos h2]
        rw [e1, e2]
        exact due_some c l t
      · have e1 : dueS c (some u) t = some u := by show (if _ then _ else _) = _; rw [if_neg fun z => h2 z.2]
        have e2 : stepK c u t = u := by unfold stepK; rw [if_neg h2]
        rw [e1, e2]
        exact due_some c l u
    · rw [List.filter_cons_of_neg (by rw [decide_eq_true_iff]; exact h)]
      have e1 : dueS c (some u) t = some u := by show (if _ then _ else _) = _; rw [if_neg fun z => h z.1]
      rw [e1]
      exact due_some c l u
theorem due_none (c : Int → Int) : ∀ l : List Int, l.foldl (dueS c) none = bestK (l.filter fun t => decide (c t > 0)) c
  | [] => rfl
  | t :: l => by
    rw [List.foldl_cons]
    by_cases h : c t > 0
    · rw [List.filter_cons_of_pos (p := fun t => decide (c t > 0)) (decide_eq_true h), bestK_fold]
      have e1 : dueS c none t = some t := by show (if _ then _ else _) = _; rw [if_pos h]
      rw [e1]
      exact due_some c l t
    · rw [List.filter_cons_of_neg (by rw [decide_eq_true_iff]; exact h)]
      have e1 : dueS c none t = none := by show (if _ then _ else _) = _; rw [if_neg h]
      rw [e1]
      exact due_none c l
theorem rise_eq : ∀ {l1 l2 : List Int}, l1.Pairwise (· < ·) → l2.Pairwise (· < ·) → (∀ z, z ∈ l1 ↔ z ∈ l2) → l1 = l2
  | [], [], _, _, _ => rfl
  | [], y :: l2, _, _, h => by have := (h y).mpr List.mem_cons_self; cases this
  | x :: l1, [], _, _, h => by have := (h x).mp List.mem_cons_self; cases this
  | x :: l1, y :: l2, h1, h2, h => by
    have a1 := List.pairwise_cons.mp h1
    have a2 := List.pairwise_cons.mp h2
    have exy : x = y := by
      rcases List.mem_cons.mp ((h x).mp List.mem_cons_self) with e | e
      · exact e
      · rcases List.mem_cons.mp ((h y).mpr List.mem_cons_self) with e2 | e2
        · exact e2.symm
        · have u1 := a2.1 x e
          have u2 := a1.1 y e2
          omega
    subst exy
    refine congrArg (List.cons x) (rise_eq a1.2 a2.2 fun z => ⟨fun hz => ?_, fun hz => ?_⟩)
    · rcases List.mem_cons.mp ((h z).mp (List.mem_cons_of_mem _ hz)) with e | e
      · have := a1.1 z hz; omega
      · exact e
    · rcases List.mem_cons.mp ((h z).mpr (List.mem_cons_of_mem _ hz)) with e | e
      · have := a2.1 z hz; omega
      · exact e
def tos : List Int := [0, 2, 3, 7, 16, 4094, 4095]
structure Cnt (m : Led) (nm : List ((Int × Int) × Int)) : Prop where
  same : ∀ p t, rdG nm p t = getI (inn m p) t
  key : ∀ p t, t ∈ (inn m p).map (·.1) → t ∈ tos
  pos : ∀ p t, t ∈ (inn m p).map (·.1) → 0 < getI (inn m p) t
  nd : ∀ p, ((inn m p).map (·.1)).Nodup
theorem get_none {l : List (Int × Int)} {t : Int} (h : t ∉ l.map (·.1)) : getI l t = 0 := by
  unfold getI
  induction l with
  | nil => rfl
  | cons q l ih =>
    rw [List.lookup_cons]
    have h1 : t ≠ q.1 := fun e => h (by rw [e]; exact List.mem_cons_self)
    rw [show (t == q.1) = false from by simpa using h1]
    exact ih fun z => h (List.mem_cons_of_mem _ z)
theorem Cnt.len {m : Led} {nm : List ((Int × Int) × Int)} (h : Cnt m nm) (p : Int) : (inn m p).length < 64 := by
  have h1 : ((inn m p).map (·.1)).length ≤ tos.length := (h.nd p).length_le_of_subset fun t ht => h.key p t ht
  rw [List.length_map] at h1
  have h2 : tos.length = 7 := rfl
  omega
theorem Cnt.guess {m : Led} {nm : List ((Int × Int) × Int)} (h : Cnt m nm) (p : Int) : guessO m p = tos.foldl (dueS fun t => getI (inn m p) t) none := by
  rw [due_none]
  unfold guessO
  congr 1
  refine rise_eq (srtI_rise _) (List.Pairwise.filter _ (by decide)) fun z => ?_
  rw [srtI_mem, List.mem_filter, decide_eq_true_iff]
  refine ⟨fun hz => ⟨h.key p z hz, h.pos p z hz⟩, fun hz => ?_⟩
  by_cases hm : z ∈ (inn m p).map (·.1)
  · exact hm
  · have := hz.2
    rw [get_none hm] at this
    omega
end
section
variable {P : Program} {w : World} {K : PySem.W.Frag} {mg : Str → Option Value} {base : Heap}
theorem at_intsC {zs : List Int} {i : Int} (h0 : 0 ≤ i) (h1 : i < (zs.length : Int)) : atI (zs.map PyData.int) i = some (.int (zs.getD i.toNat 0)) := by
  have hl : i.toNat < zs.length := by omega
  refine atI_of h0 ?_
  rw [List.getElem?_map, List.getD_eq_getElem?_getD, List.getElem?_eq_getElem hl]
  rfl
theorem ev_ixPP {X : Cx} {G : Gam} {o a b : Expr} {pos tp : Pos} {kt} {m : List ((Int × Int) × Int)} {za zb v : Int} (hu : X.A.units + 1 < cLine) (ho : EV X G o (.dict (ppE m))) (ha : EV X G a (.int za)) (hb : EV X G b (.int zb)) (hv : m.lookup (za, zb) = some v)
    (hns : NoSl (.Tuple [a, b] kt tp) := by intro _ _; rfl) (hs : starEach [a, b] X.env = (false, eval a X.env) :: starEach [b] X.env := by rfl) (hs2 : starEach [b] X.env = (false, eval b X.env) :: starEach [] X.env := by rfl) : EV X G (.Subscript o (.Tuple [a, b] kt tp) pos) (.int v) :=
  (pe_dget hu ho (pe_tup (av_cons ha (av_cons hb av_nil hs2) hs)) hns).imp fun σ H Q ⟨h, q⟩ => ⟨h, fun y H1 s1 d1 => by
    obtain ⟨ad, m', rfl, hk, em⟩ := d1.of_pp
    have em := ppE_inj em
    subst em
    refine ⟨h.mono s1, fun vs H2 s2 d2 => ⟨by rw [d2.length]; show 2 ≤ _; rw [sizeLine_eq]; omega, fun p hp => ?_⟩⟩
    obtain ⟨v1, v2, rfl, e1, e2⟩ := d2.two
    have e1 := e1.of_int
    have e2 := e2.of_int
    subst e1 e2
    have sn : Same H2 (upd H2 p (.tup [.int za, .int zb])) := Same.new hp
    refine ⟨ad, .int v, rfl, ?_, q _ _ ((s1.trans s2).trans sn) (.int v)⟩
    have g := DGet.t (k := [.inl za, .inl zb]) (sn _ _ (s2 _ _ hk)) (show upd H2 p (.tup [.int za, .int zb]) p = some (.tup ([.inl za, .inl zb].map kV)) from upd_same)
    rw [valPP, hv] at g
    exact g⟩
def F_whl (ds : List PyData) (d : PyData) : Prop := (∃ i : Int, ds = [.int i]) ∧ d = .bool true
theorem d_whl (T : Txt mg) {f : Addr} {fd : FuncData} (F : Fun K "_law_whole" "_law_whole" s_law_whole f fd) (hm : mg "_law_whole" = some (.ref f)) : DFn P w K mg base 1 "_law_whole" F_whl := by
  refine F.data hm (F.binds fun _ _ _ _ _ _ us hl => match us, hl with | [_], _ => rfl) sc_law_whole (fun ds d ⟨⟨_, e⟩, _⟩ => by rw [e]; rfl) fun cdv A outer s H E ds d hr ⟨⟨i, e⟩, e2⟩ => ?_
  subst e e2
  exact svs_ret (sv_ret (ev_eq (ev_and (ev_isi (n := "int") (ev_var 0 (by rfl) (pv 0)) rfl T.b_isinstance rfl T.b_int (by decide +kernel) (by rfl)) (fun _ => (ev_one (ev_not (ev_isi (n := "bool") (ev_var 0 (by rfl) (pv 0)) rfl T.b_isinstance rfl T.b_bool (by decide +kernel) (by rfl))))) (by walk_at "bf")) rfl))
def placeL : List Int := [0, 1, 2, 15, 16, 127, 4094, 4095]
def toL : List Int := [0, 2, 3, 16, 4094, 4095]
def stP (d : Int) : Int := placeL.getD (d % 8).toNat 0
def stT (d : Int) : Int := toL.getD (d / 8 % 6).toNat 0
def F_stp (ds : List PyData) (d : PyData) : Prop := ∃ z : Int, ds = [.int z] ∧ d = .tuple [.int (stP z), .int (stT z)]
theorem d_law_step {f : Addr} {fd : FuncData} (F : Fun K "_law_step" "_law_step" s_law_step f fd) (hm : mg "_law_step" = some (.ref f)) : DFn P w K mg base 1 "_law_step" F_stp := by
  refine F.data hm (F.binds fun _ _ _ _ _ _ us hl => match us, hl with | [_], _ => rfl) sc_law_step (fun ds d ⟨_, e, _⟩ => by rw [e]; rfl) fun cdv A outer s H E ds d hr ⟨z, e, e2⟩ => ?_
  subst e e2
  refine svs_cons (sv_set (i := 1) (d := .int (stP z)) sc_law_step.nd rfl (Or.inl rfl) (ev_ixL (ds := placeL.map PyData.int) (ev_lst (av_cons ev_int (av_cons ev_int (av_cons ev_int (av_cons ev_int (av_cons ev_int (av_cons ev_int (av_cons ev_int (av_cons ev_int av_nil)))))))) (by walk_at "sz")) (ev_bin (ev_var 0 (by rfl) (pv 0)) ev_int (by walk_at "od")) (at_intsC (by omega) (show z % 8 < (8 : Int) by omega)))) ?_
  refine svs_cons (sv_set (i := 2) (d := .int (stT z)) sc_law_step.nd rfl (Or.inl rfl) (ev_ixL (ds := toL.map PyData.int) (ev_lst (av_cons ev_int (av_cons ev_int (av_cons ev_int (av_cons ev_int (av_cons ev_int (av_cons ev_int av_nil)))))) (by walk_at "sz")) (ev_bin (ev_bin (ev_var 0 (by rfl) (pv 0)) ev_int (by walk_at "od")) ev_int (by walk_at "od")) (at_intsC (by omega) (show z / 8 % 6 < (6 : Int) by omega)))) ?_
  exact svs_ret (sv_ret (ev_eq (ev_tup (av_cons (ev_var 1 (by rfl) (pv 1)) (av_cons (ev_var 2 (by rfl) (pv 2)) av_nil)) (by walk_at "sz")) rfl))
def F_good (C : Addr) (ds : List PyData) (d : PyData) : Prop := ∃ (m : Led) (nm : List ((Int × Int) × Int)) (p : Int), Cnt m nm ∧ ds = [ctD C m, .dict (ppE nm), .int p] ∧ d = .bool true
abbrev frG (C : Addr) (m : Led) (nm : List ((Int × Int) × Int)) (p : Int) (o : Option Int) (a4 a5 a6 a7 : Option PyData) : Gam := [some (ctD C m), some (.dict (ppE nm)), some (.int p), some (bestD o), a4, a5, a6, a7]
theorem look_rd {nm : List ((Int × Int) × Int)} {p t : Int} (h : 0 < rdG nm p t) : nm.lookup (p, t) = some (rdG nm p t) := by
  unfold rdG at h ⊢
  cases e : nm.lookup (p, t) with
  | none => rw [e] at h; cases h
  | some v => rfl
theorem due_pos (c : Int → Int) : ∀ (l : List Int) (o : Option Int), (∀ u, o = some u → 0 < c u) → ∀ u, l.foldl (dueS c) o = some u → 0 < c u
  | [], o, h, u, e => h u e
  | t :: l, o, h, u, e => by
    refine due_pos c l (dueS c o t) (fun v ev => ?_) u e
    cases o with
    | none =>
      have ev : (if c t > 0 then some t else none) = some v := ev
      split at ev
      · cases ev; assumption
      · cases ev
    | some w =>
      have ev : (if c t > 0 ∧ c t > c w then some t else some w) = some v := ev
      split at ev
      · rename_i hh; cases ev; exact hh.1
      · cases ev; exact h _ rfl
end
section
variable {P : Program} {w : World} {K : PySem.W.Frag} {mg : Str → Option Value} {base : Heap}
set_option maxHeartbeats 8000000 in
theorem t_law_good (T : Txt mg) {C Ta : Addr} (CC : ClsC K mg C) (M_often : MFn P w K mg base 1 C "often" (F_oft C)) (M_guess : TbM P w K mg base 2 (tb54 Ta) C "guess" (F_gue C)) (D_whole : DFn P w K mg base 1 "_law_whole" F_whl) {f : Addr} {fd : FuncData} (F : Fun K "_law_good" "_law_good" s_law_good f fd) (hm : mg "_law_good" = some (.ref f)) : TbFn P w K mg base 3 (tb54 Ta) "_law_good" (F_good C) := by
  refine ⟨f, fd, ["counts", "noted", "place"], tbOk F sc_law_good (fun ds d ⟨_, _, _, _, e, _⟩ => by rw [e]; rfl) fun cdv A outer s H E o ds d ecd hr ⟨m, nm, p, hc, e, e2⟩ => ?_, hm, F.kp, F.binds fun _ _ _ _ _ _ us hl => match us, hl with | [_, _, _], _ => rfl⟩
  subst e e2
  have ok : ∀ o, ZOk ((tb54 Ta).L o) ((tb54 Ta).I o) := fun o => tb_ok
  obtain ⟨cn, ecn⟩ : ∃ cn : Int → Int, cn = fun t => getI (inn m p) t := ⟨_, rfl⟩
  have hrd : ∀ t, rdG nm p t = cn t := fun t => by rw [ecn]; exact hc.same p t
  have hoft : ∀ t, getI (inn m p) t = cn t := fun t => by rw [ecn]
  refine zv_cons (G1 := frG C m nm p none none none none none) (zn_set (i := 3) (d := .none) sc_law_good.nd rfl (by show 3 ∉ []; decide) (Or.inl rfl) (ze_of (ok o) ev_non rfl)) ?_
  refine zv_forF (j := 4) (ds := tos.map PyData.int) (Iv := fun _ : Unit => (tb54 Ta).I o) (T := ()) (fun k G _ => ∃ a4 a5 a6, G = frG C m nm p ((tos.take k).foldl (dueS cn) none) a4 a5 a6 none) (fun _ => ok o) PassesOwn.never rfl (fun q hq => by cases hq) (pg_name (i := 4) sc_law_good.nd rfl (Or.inl rfl)) sees_self (evf_lst (av_cons ev_int (av_cons ev_int (av_cons ev_int (av_cons ev_int (av_cons ev_int (av_cons ev_int (av_cons ev_int av_nil))))))) (by rw [sizeLine_eq]; show 7 ≤ 16777216; decide)) rfl ⟨_, _, _, rfl⟩ ?body ?done
  case body =>
    rintro k d G _ hd ⟨a4, a5, a6, rfl⟩
    rw [List.getElem?_map] at hd
    obtain ⟨t, et, rfl⟩ := Option.map_eq_some_iff.mp hd
    obtain ⟨u, eu⟩ : ∃ u, u = (tos.take k).foldl (dueS cn) none := ⟨_, rfl⟩
    have enext : (tos.take (k + 1)).foldl (dueS cn) none = dueS cn u t := by rw [List.take_succ, et, List.foldl_append, ← eu]; rfl
    rw [enext, ← eu]
    refine zv_cons (G1 := frG C m nm p u (some (.int t)) (some (.int (cn t))) a6 none) (zn_set (i := 5) (d := .int (cn t)) sc_law_good.nd rfl (by show 5 ∉ []; decide) (Or.inl rfl) (ze_of (ok o) (ev_eq (ev_getPP (u1_of (by walk_at "un")) (ev_var 1 (by rfl) (pv 1)) (ev_var 2 (by rfl) (pv 2)) (ev_var 4 (by rfl) (pv 4)) ev_int ⟨rfl, rfl, rfl, rfl⟩) (by rw [hrd])) rfl)) ?_
    refine zv_cons (G1 := frG C m nm p u (some (.int t)) (some (.int (cn t))) (some (.int (cn t))) none) (zn_set (i := 6) (d := .int (cn t)) sc_law_good.nd rfl (by show 6 ∉ []; decide) (Or.inl rfl) (ze_of (ok o) (ev_eq (ev_methD CC.cl M_often (by walk_at "rm") (ev_var 0 (by rfl) (pv 0)) (av_cons (ev_var 2 (by rfl) (pv 2)) (av_cons (ev_var 4 (by rfl) (pv 4)) av_nil)) ⟨m, p, t, rfl, rfl⟩) (by rw [hoft])) rfl)) ?_
    refine zv_ifF (zti_of (zt_of (ok o) (tv_eq (tv_w (wv_or (k := false) (k' := false) (tv_eq (tv_not (k := true) (tv_val (ev_call D_whole (by walk_at "rm") rfl (av_cons (ev_var 6 (by rfl) (pv 6)) av_nil) ⟨⟨_, rfl⟩, rfl⟩))) rfl) (fun _ => wv_or1 (tv_cmp (ev_var 6 (by rfl) (pv 6)) (ev_var 5 (by rfl) (pv 5)) (od_ne (by walk_at "un") rfl rfl (by walk_at "dp") (by rw [eqv_self _ rfl]; rfl)) (nomark _))))) rfl))) ?_
    refine zv_cons (G1 := frG C m nm p (dueS cn u t) (some (.int t)) (some (.int (cn t))) (some (.int (cn t))) none) ?due (zv_nil fun σ H rz => ⟨rfl, _, (), ⟨_, _, _, rfl⟩, rz⟩)
    case due =>
      by_cases h0 : cn t > 0
      · cases hu : u with
        | none =>
          have e1 : dueS cn none t = some t := by show (if _ then _ else _) = _; rw [if_pos h0]
          rw [e1]
          exact zn_ifI (k := true) (zti_of (zt_of (ok o) (tv_eq (tv_w (wv_and (k := true) (k' := true) (tv_eq (tv_cmp (ev_var 5 (by rfl) (pv 5)) ev_int od_gt (nomark _)) (decide_eq_true h0)) (fun _ => wv_and1 (tv_eq (tv_w (wv_or (k := true) (k' := true) (tv_isN (ev_var 3 (by rfl) (pv 3)) rfl) (fun h => by cases h))) rfl)))) rfl))) (fun _ => zn_cons (zn_set (i := 3) (d := .int t) sc_law_good.nd rfl (by show 3 ∉ []; decide) (Or.inl rfl) (ze_of (ok o) (ev_var 4 (by rfl) (pv 4)) rfl)) zn_nil) (fun h => by cases h)
        | some v =>
          have hv : 0 < cn v := due_pos cn (tos.take k) none (fun _ z => by cases z) v (by rw [← eu, hu])
          have hlk : nm.lookup (p, v) = some (cn v) := by
            have z := look_rd (nm := nm) (p := p) (t := v) (by rw [hrd]; exact hv)
            rw [hrd] at z
            exact z
          by_cases h2 : cn t > cn v
          · have e1 : dueS cn (some v) t = some t := by show (if _ then _ else _) = _; rw [if_pos ⟨h0, h2⟩]
            rw [e1]
            exact zn_ifI (k := true) (zti_of (zt_of (ok o) (tv_eq (tv_w (wv_and (k := true) (k' := true) (tv_eq (tv_cmp (ev_var 5 (by rfl) (pv 5)) ev_int od_gt (nomark _)) (decide_eq_true h0)) (fun _ => wv_and1 (tv_eq (tv_w (wv_or (k := false) (k' := true) (tv_isN (ev_var 3 (by rfl) (pv 3)) rfl) (fun _ => wv_or1 (tv_eq (tv_cmp (ev_var 5 (by rfl) (pv 5)) (ev_ixPP (u1_of (by walk_at "un")) (ev_var 1 (by rfl) (pv 1)) (ev_var 2 (by rfl) (pv 2)) (ev_var 3 (by rfl) (pv 3)) hlk) od_gt (nomark _)) (decide_eq_true h2))))) rfl)))) rfl))) (fun _ => (zn_cons (zn_set (i := 3) (d := .int t) sc_law_good.nd rfl (by show 3 ∉ []; decide) (Or.inl rfl) (ze_of (ok o) (ev_var 4 (by rfl) (pv 4)) rfl)) zn_nil)) (fun h => by cases h)
          · have e1 : dueS cn (some v) t = some v := by show (if _ then _ else _) = _; rw [if_neg fun z => h2 z.2]
            rw [e1]
            exact zn_ifI (k := false) (zti_of (zt_of (ok o) (tv_eq (tv_w (wv_and (k := true) (k' := false) (tv_eq (tv_cmp (ev_var 5 (by rfl) (pv 5)) ev_int od_gt (nomark _)) (decide_eq_true h0)) (fun _ => wv_and1 (tv_eq (tv_w (wv_or (k := false) (k' := false) (tv_isN (ev_var 3 (by rfl) (pv 3)) rfl) (fun _ => wv_or1 (tv_eq (tv_cmp (ev_var 5 (by rfl) (pv 5)) (ev_ixPP (u1_of (by walk_at "un")) (ev_var 1 (by rfl) (pv 1)) (ev_var 2 (by rfl) (pv 2)) (ev_var 3 (by rfl) (pv 3)) hlk) od_gt (nomark _)) (decide_eq_false h2))))) rfl)))) rfl))) (fun h => by cases h) (fun _ => zn_nil)
      · have e1 : dueS cn u t = u := by
          cases u with
          | none => show (if _ then _ else _) = _; rw [if_neg h0]
          | some v => show (if _ then _ else _) = _; rw [if_neg fun z => h0 z.1]
        rw [e1]
        exact zn_ifI (k := false) (zti_of (zt_of (ok o) (tv_eq (tv_w (wv_and (k := false) (k' := false) (tv_eq (tv_cmp (ev_var 5 (by rfl) (pv 5)) ev_int od_gt (nomark _)) (decide_eq_false h0)) (fun h => by cases h))) rfl))) (fun h => by cases h) (fun _ => zn_nil)
  case done =>
    rintro G _ ⟨a4, a5, a6, rfl⟩
    have et : (tos.take (tos.map PyData.int).length).foldl (dueS cn) none = guessO m p := by
      rw [List.length_map, List.take_length, hc.guess p, ecn]
    rw [et]
    obtain ⟨g, eg⟩ : ∃ g, g = guessO m p := ⟨_, rfl⟩
    rw [← eg]
    have hF : F_gue C [ctD C m, .int p] (bestD g) := ⟨m, p, hc.len p, rfl, by rw [eg]⟩
    refine zv_consE (β := Option Addr) (Lo := fun o' => (tb54 Ta).L o') (Io := fun o' => (tb54 Ta).I o') (ro := fun _ => []) (Go := fun _ => frG C m nm p g a4 a5 a6 (some (bestD g))) (fun _ => True) (ps_setTb (j := 7) (d := bestD g) sc_law_good.nd rfl (by show 7 ∉ []; decide) (Or.inl rfl) (pe_methTb CC.cl M_guess (by walk_at "rm") (pv 0) rfl (za_cons (ze_var (pv 2) rfl) za_nil) hF)) fun o' _ => ?_
    cases g with
    | none =>
      refine zv_ifT (zti_of (zt_of (ok o') (tv_isN (ev_var 3 (by rfl) (pv 3)) rfl))) ?_
      exact zv_ret (d := .bool true) (ze_of (ok o') (ev_isN (k := true) (ev_var 7 (by rfl) (pv 7)) rfl) rfl) fun v H' i' dv => ⟨o', rfl, i', dv⟩
    | some z =>
      refine zv_ifF (zti_of (zt_of (ok o') (tv_isN (ev_var 3 (by rfl) (pv 3)) rfl))) ?_
      exact zv_ret (d := .bool true) (ze_of (ok o') (ev_and (k := true) (ev_call D_whole (by walk_at "rm") rfl (av_cons (ev_var 7 (by rfl) (pv 7)) av_nil) ⟨⟨z, rfl⟩, rfl⟩) (fun _ => ev_one (ev_cmp (da := .int z) (db := .int z) (ev_var 7 (by rfl) (pv 7)) (ev_var 3 (by rfl) (pv 3)) (od_eq (by walk_at "un") rfl rfl (by walk_at "dp") (eqv_self _ rfl)) (nomark _))) (fun h => by cases h)) rfl) fun v H' i' dv => ⟨o', rfl, i', dv⟩
end
section
variable {P : Program} {w : World} {K : PySem.W.Frag} {mg : Str → Option Value} {base : Heap}
theorem inkSet {H H' : Hp} {p : Int} {l l' : List (Int × Int)} {b : Addr} (hb : H' b = some (.dK (intK l'))) : ∀ {kvs : List (Key × V)} {m : Led} {ins : List Addr}, InK H kvs m ins → ins.Nodup → (m.map (·.1)).Nodup → m.lookup p = some l → valV kvs (.inl p) = some (.ref b) → (∀ c ∈ ins, c ≠ b → ∀ o, H c = some o → H' c = some o) → InK H' kvs (m.map fun q => if q.1 = p then (q.1, l') else q) ins
  | _, _, _, .nil, _, _, e, _, _ => by cases e
  | _, _, _, .cons (p := p0) (l := l0) (kvs := kvs) (m := m) (b := b0) (ins := ins) h t, ni, nm, e, hv, k => by
    rw [List.nodup_cons] at ni
    rw [List.map_cons, List.nodup_cons] at nm
    rw [List.map_cons]
    by_cases hz : p0 = p
    · subst hz
      have eb : b0 = b := by
        rw [valV_pos rfl] at hv
        injection hv with hv
        injection hv
      subst eb
      rw [if_pos rfl]
      refine .cons hb ?_
      have em : (m.map fun q => if q.1 = p0 then (q.1, l') else q) = m := by
        refine (List.map_congr_left fun q hq => ?_).trans (List.map_id _)
        rw [if_neg fun (e1 : q.1 = p0) => nm.1 (List.mem_map.mpr ⟨q, hq, e1⟩)]
        rfl
      rw [em]
      exact t.mono fun c hc o eo => k c (List.mem_cons_of_mem _ hc) (fun z => ni.1 (z ▸ hc)) o eo
    · rw [if_neg hz]
      have e2 : m.lookup p = some l := by
        rw [List.lookup_cons] at e
        simpa [show (p == p0) = false from by simpa using Ne.symm hz] using e
      have hv2 : valV kvs (.inl p) = some (.ref b) := by
        rw [valV_neg fun z => hz (Sum.inl.inj z)] at hv
        exact hv
      have hbi : b0 ≠ b := fun z => by
        obtain ⟨c, hc, h1, _⟩ := (t.val p).2 l e2
        rw [hv2] at h1
        injection h1 with h1
        injection h1 with h1
        exact ni.1 (z ▸ h1 ▸ hc)
      exact .cons (k b0 List.mem_cons_self hbi _ h) (inkSet hb t ni.2 nm.2 e2 hv2 fun c hc => k c (List.mem_cons_of_mem _ hc))
theorem inkSnoc {H : Hp} {p : Int} {l : List (Int × Int)} {b : Addr} (hb : H b = some (.dK (intK l))) : ∀ {kvs : List (Key × V)} {m : Led} {ins : List Addr}, InK H kvs m ins → InK H (kvs ++ [(.inl p, .ref b)]) (m ++ [(p, l)]) (ins ++ [b])
  | _, _, _, .nil => .cons hb .nil
  | _, _, _, .cons h t => .cons h (inkSnoc hb t)
theorem val_intK (l : List (Int × Int)) (t : Int) : (valV (intK l) (.inl t)).getD (.int 0) = V.int (getI l t) := by
  have h : valV (intK l) (.inl t) = (l.lookup t).map V.int := (DVk.intsK (K := []) (H := fun _ => none) l).valI t
  rw [h]
  unfold getI
  cases l.lookup t <;> rfl
def spNt (C : Addr) : Sp := fun vs H Q _ => ∃ (R : CtR) (m : Led) (p t : Int), CtZ C R m H ∧ (m.map (·.1)).Nodup ∧ m.length < 100000 ∧ (inn m p).length < 100000 ∧ vs = [.ref R.a, .int p, .int t] ∧
  ∀ R' H', R'.a = R.a → CtZ C R' (noteM m p t) H' → Same (lef R.L H) (lef R'.L H') → Q .non H'
def NtFn (P : Program) (w : World) (K : PySem.W.Frag) (mg : Str → Option Value) (base : Heap) (k : Nat) (C : Addr) : Prop :=
  ∃ f fd ps, FnOk P w K mg base CX0 k f fd ps (spNt C) ∧ Meth K C "note" f ∧ Binds K fd ps []
set_option maxHeartbeats 4000000 in
theorem nt_note {C : Addr} (CC : ClsC K mg C) {f : Addr} {fd : FuncData} (F : Fun K "note" "Counts.note" s_Counts_note f fd) (hm : Meth K C "note" f) : NtFn P w K mg base 1 C := by
  refine ⟨f, fd, ["self", "place", "to"], F.ok sc_Counts_note (fun vs H Q E ⟨R, m, p, t, _, _, _, _, e, _⟩ => by rw [e]; rfl) ?_, hm, F.binds fun _ _ _ _ _ _ us hl => match us, hl with | [_, _, _], _ => rfl⟩
  rintro cdv A outer s H vs Q E hr ⟨R, m, p, t, hz, nd, l1, l2, e, q⟩
  subst e
  have hu : (cxOf CX0 P w K mg base ["self", "place", "to", "led"] "Counts.note" (defScope s_Counts_note) f cdv A outer s H E).nox.A.units + 1 < cLine := u1_of (by walk_at "un")
  refine ⟨_, pss_cons (ps_set (i := 3) sc_Counts_note.nd rfl (Or.inl rfl) (pe_dsetdef (pe_fld (pv 0) rfl) (pv 1) pe_dnewK ⟨rfl, rfl, rfl, rfl⟩)) (pss_one (ps_dput hu (pv 3) (pv 2) (pe_op op_add (pe_dget2 hu (pv 3) (pv 2) pe_int ⟨rfl, rfl, rfl, rfl⟩) pe_int) rfl)), ?_⟩
  obtain ⟨h1, h2, hn, kvs, h3, h4⟩ := id hz
  have hlk : kvs.length < sizeLine := by rw [h4.len, sizeLine_eq]; omega
  refine ⟨.ref R.a, rfl, R.a, C, R.dx, _, .ref R.D, rfl, h1, CC.cl, CC.n1, by simp, R.D, rfl, .inl ⟨kvs, .inl h3⟩, .int p, rfl, fun e he => ?_⟩
  have heD : R.D ≠ e := ne_of_none h3 he
  have hDe : upd H e (.dK []) R.D = some (.dK kvs) := by rw [upd_ne heD]; exact h3
  have hne : ∀ b ∈ R.L, b ≠ e := fun b hb z => ct_ok.free hz (z ▸ he) hb
  have hLD : R.D ∈ R.L := List.mem_cons_of_mem _ (List.mem_cons_of_mem _ List.mem_cons_self)
  have hLi : ∀ b ∈ R.ins, b ∈ R.L := fun b hb => List.mem_cons_of_mem _ (List.mem_cons_of_mem _ (List.mem_cons_of_mem _ hb))
  have hnd : (R.ins).Nodup ∧ R.a ∉ R.ins ∧ R.dx ∉ R.ins ∧ R.D ∉ R.ins ∧ R.a ≠ R.dx ∧ R.a ≠ R.D ∧ R.dx ≠ R.D := by
    have := hn
    simp only [CtR.L, List.nodup_cons, List.mem_cons, not_or] at this
    exact ⟨this.2.2.2, this.1.2.2, this.2.1.2, this.2.2.1, this.1.1, this.1.2.1, this.2.1.1⟩
  obtain ⟨ni, na, nx, nD, nadx, naD, nxD⟩ := hnd
  refine ⟨kvs, .inl p, hDe, rfl, hlk, fun v hv => ?_, fun hv => ?_⟩
  · have hpl : ∃ l, m.lookup p = some l := by
      cases e0 : m.lookup p with
      | none => rw [(h4.val p).1 e0] at hv; cases hv
      | some l => exact ⟨l, rfl⟩
    obtain ⟨l, el⟩ := hpl
    obtain ⟨b, hb, hvb, hbl⟩ := (h4.val p).2 l el
    rw [hvb] at hv
    cases hv
    have hbe : upd H e (.dK []) b = some (.dK (intK l)) := by rw [upd_ne (hne b (hLi b hb))]; exact hbl
    have hll : inn m p = l := by unfold inn; rw [el]; rfl
    rw [hll] at l2
    refine ⟨.ref b, rfl, b, rfl, .inl ⟨_, .inl hbe⟩, .int t, rfl, _, DGet.k (k := .inl t) hbe, getI l t, 1, val_intK l t, rfl, .ref b, rfl, .int t, rfl, b, _, rfl, DPut.k (k := .inl t) hbe (by show (intK l).length < _; unfold intK; rw [List.length_map, sizeLine_eq]; omega), ?_⟩
    rw [putK_int]
    have hup : ∀ c, c ≠ b → c ≠ e → upd (upd H e (.dK [])) b (.dK (intK (putI l t (getI l t + 1)))) c = H c := fun c c1 c2 => by rw [upd_ne c1, upd_ne c2]
    have hbn : ∀ c, c ∉ R.ins → c ≠ b := fun c hc z => hc (z ▸ hb)
    have ez : noteM m p t = m.map fun q => if q.1 = p then (q.1, putI l t (getI l t + 1)) else q := by
      unfold noteM putL
      rw [hll, el]
      rfl
    refine q R _ rfl ⟨?_, ?_, hn, kvs, ?_, ?_⟩ ?_
    · rw [hup _ (hbn _ na) (hne _ List.mem_cons_self)]; exact h1
    · rw [hup _ (hbn _ nx) (hne _ (List.mem_cons_of_mem _ List.mem_cons_self))]; exact h2
    · rw [hup _ (hbn _ nD) (hne _ hLD)]; exact h3
    · rw [ez]
      exact inkSet upd_same h4 ni nd el hvb fun c hc cb o eo => by rw [hup c cb (hne c (hLi c hc))]; exact eo
    · intro c o eo
      have hc : c ∉ R.L := fun z => by rw [lef_in z] at eo; cases eo
      rw [lef_ne hc] at eo ⊢
      rw [hup c (fun z => hc (z ▸ hLi b hb)) (ne_of_none eo he)]
      exact eo
  · have el : m.lookup p = none := by
      cases e0 : m.lookup p with
      | none => rfl
      | some l =>
        obtain ⟨b, _, hvb, _⟩ := (h4.val p).2 l e0
        rw [hvb] at hv; cases hv
    have ekv : putK kvs (.inl p) (.ref e) = kvs ++ [(.inl p, .ref e)] := by
      unfold putK
      rw [if_neg (by rw [valV_any, hv]; simp)]
    rw [ekv]
    have hee : upd (upd H e (.dK [])) R.D (.dK (kvs ++ [(.inl p, .ref e)])) e = some (.dK (intK [])) := by rw [upd_ne (Ne.symm heD), upd_same]; rfl
    have hll : inn m p = [] := by unfold inn; rw [el]; rfl
    refine ⟨.ref e, rfl, e, rfl, .inl ⟨_, .inl hee⟩, .int t, rfl, _, DGet.k (k := .inl t) hee, getI [] t, 1, val_intK [] t, rfl, .ref e, rfl, .int t, rfl, e, _, rfl, DPut.k (k := .inl t) hee (by rw [sizeLine_eq]; show 0 < 16777216; decide), ?_⟩
    rw [putK_int]
    obtain ⟨H3, eH⟩ : ∃ H3, H3 = upd (upd (upd H e (.dK [])) R.D (.dK (kvs ++ [(.inl p, .ref e)]))) e (.dK (intK (putI [] t (getI [] t + 1)))) := ⟨_, rfl⟩
    rw [← eH]
    have hup : ∀ c, c ≠ R.D → c ≠ e → H3 c = H c := fun c c1 c2 => by rw [eH, upd_ne c2, upd_ne c1, upd_ne c2]
    have hD3 : H3 R.D = some (.dK (kvs ++ [(.inl p, .ref e)])) := by rw [eH, upd_ne heD, upd_same]
    have he3 : H3 e = some (.dK (intK (putI [] t (getI [] t + 1)))) := by rw [eH, upd_same]
    have ez : noteM m p t = m ++ [(p, putI [] t (getI [] t + 1))] := by
      unfold noteM putL
      rw [hll, el]
      rfl
    have neL : e ∉ R.L := fun z => hne e z rfl
    refine q ⟨R.a, R.dx, R.D, R.ins ++ [e]⟩ _ rfl ⟨?_, ?_, ?_, _, hD3, ?_⟩ ?_
    · rw [hup _ naD (hne _ List.mem_cons_self)]; exact h1
    · rw [hup _ nxD (hne _ (List.mem_cons_of_mem _ List.mem_cons_self))]; exact h2
    · show (R.L ++ [e]).Nodup
      rw [List.nodup_append]
      refine ⟨hn, List.nodup_cons.mpr ⟨List.not_mem_nil, List.nodup_nil⟩, fun c hc d hd z => ?_⟩
      rw [List.mem_singleton.mp hd] at z
      exact neL (z ▸ hc)
    · rw [ez]
      exact inkSnoc he3 (h4.mono (H' := H3) fun c hc o eo => by rw [hup c (fun z => nD (z ▸ hc)) (hne c (hLi c hc))]; exact eo)
    · intro c o eo
      have hc : c ∉ R.L := fun z => by rw [lef_in z] at eo; cases eo
      rw [lef_ne hc] at eo
      have hce := ne_of_none eo he
      show lef (R.L ++ [e]) H3 c = some o
      rw [lef_ne (show c ∉ R.L ++ [e] from fun z => (List.mem_append.mp z).elim hc fun z => hce (List.mem_singleton.mp z)), hup c (fun z => hc (z ▸ hLD)) hce]
      exact eo
end
section
variable {P : Program} {w : World} {K : PySem.W.Frag} {mg : Str → Option Value} {base : Heap}
def putA {α β : Type} [BEq α] [DecidableEq α] (l : List (α × β)) (k : α) (v : β) : List (α × β) := if (l.lookup k).isSome = true then l.map (fun q => if q.1 = k then (q.1, v) else q) else l ++ [(k, v)]
section
variable {α β : Type} [BEq α] [LawfulBEq α] [DecidableEq α]
theorem lk_pos (k : α) (v : β) (l : List (α × β)) : ((k, v) :: l).lookup k = some v := by rw [List.lookup_cons]; simp
theorem lk_neg {k k' : α} (h : k' ≠ k) (v : β) (l : List (α × β)) : ((k, v) :: l).lookup k' = l.lookup k' := by
  rw [List.lookup_cons]
  simp [show (k' == k) = false from by simpa using h]
theorem lk_mem {k : α} : ∀ {l : List (α × β)}, (l.lookup k).isSome = true ↔ k ∈ l.map (·.1)
  | [] => by simp
  | (k0, v) :: l => by
    by_cases h : k = k0
    · subst h; rw [lk_pos]; simp
    · rw [lk_neg h, lk_mem (l := l), List.map_cons, List.mem_cons]
      exact ⟨Or.inr, fun z => z.elim (fun z => (h z).elim) id⟩
theorem lk_map (k : α) (v : β) (k' : α) : ∀ (l : List (α × β)), (l.lookup k).isSome = true → (l.map fun q => if q.1 = k then (q.1, v) else q).lookup k' = if k' = k then some v else l.lookup k'
  | [], h => by cases h
  | (k0, v0) :: l, h => by
    rw [List.map_cons]
    by_cases h0 : k0 = k
    · subst h0
      rw [if_pos rfl]
      by_cases h1 : k' = k0
      · subst h1; rw [lk_pos, if_pos rfl]
      · rw [lk_neg h1, lk_neg h1, if_neg h1]
        by_cases h2 : (l.lookup k0).isSome = true
        · rw [lk_map k0 v k' l h2, if_neg h1]
        · have e : (l.map fun q => if q.1 = k0 then (q.1, v) else q) = l := (List.map_congr_left fun q hq => by
            rw [if_neg fun e => h2 (lk_mem.mpr (List.mem_map.mpr ⟨q, hq, e⟩))]; rfl).trans (List.map_id _)
          rw [e]
    · rw [if_neg h0]
      have h2 : (l.lookup k).isSome = true := by rw [lk_neg (Ne.symm h0)] at h; exact h
      by_cases h1 : k' = k0
      · subst h1; rw [lk_pos, lk_pos, if_neg h0]
      · rw [lk_neg h1, lk_neg h1, lk_map k v k' l h2]
theorem lk_snoc (k : α) (v : β) (k' : α) : ∀ (l : List (α × β)), ¬ (l.lookup k).isSome = true → (l ++ [(k, v)]).lookup k' = if k' = k then some v else l.lookup k'
  | [], _ => by
    by_cases h : k' = k
    · subst h; rw [if_pos rfl]; exact lk_pos _ _ _
    · rw [if_neg h]; exact lk_neg h _ _
  | (k0, v0) :: l, h => by
    have h0 : k ≠ k0 := fun e => h (by subst e; rw [lk_pos]; rfl)
    have h2 : ¬ (l.lookup k).isSome = true := by rw [lk_neg h0] at h; exact h
    rw [List.cons_append]
    by_cases h1 : k' = k0
    · subst h1; rw [lk_pos, lk_pos, if_neg (Ne.symm h0)]
    · rw [lk_neg h1, lk_neg h1, lk_snoc k v k' l h2]
theorem lk_put (l : List (α × β)) (k : α) (v : β) (k' : α) : (putA l k v).lookup k' = if k' = k then some v else l.lookup k' := by
  unfold putA
  split
  · rename_i h; exact lk_map k v k' l h
  · rename_i h; exact lk_snoc k v k' l h
theorem ky_put (l : List (α × β)) (k : α) (v : β) : (putA l k v).map (·.1) = if (l.lookup k).isSome = true then l.map (·.1) else l.map (·.1) ++ [k] := by
  unfold putA
  split
  · rw [List.map_map]
    refine List.map_congr_left fun q _ => ?_
    show (if q.1 = k then (q.1, v) else q).1 = q.1
    split <;> rfl
  · rw [List.map_append]; rfl
theorem nd_put {l : List (α × β)} (h : (l.map (·.1)).Nodup) (k : α) (v : β) : ((putA l k v).map (·.1)).Nodup := by
  rw [ky_put]
  split
  · exact h
  · rename_i h2
    rw [List.nodup_append]
    refine ⟨h, List.nodup_cons.mpr ⟨List.not_mem_nil, List.nodup_nil⟩, fun a ha b hb e => ?_⟩
    rw [List.mem_singleton.mp hb] at e
    exact h2 (lk_mem.mpr (e ▸ ha))
theorem in_put {l : List (α × β)} {k x : α} {v : β} (h : x ∈ (putA l k v).map (·.1)) : x ∈ l.map (·.1) ∨ x = k := by
  rw [ky_put] at h
  split at h
  · exact .inl h
  · exact (List.mem_append.mp h).imp id List.mem_singleton.mp
end
theorem putPP (nm : List ((Int × Int) × Int)) (p t n : Int) : putK (ppK nm) [.inl p, .inl t] (.int n) = ppK (putA nm (p, t) n) := by
  have hany : ((ppK nm).any fun kv => decide (kv.1 = ([.inl p, .inl t] : List Key))) = (nm.lookup (p, t)).isSome := by
    rw [valV_any, valPP]
    cases nm.lookup (p, t) <;> rfl
  unfold putK putA
  rw [hany]
  by_cases h : (nm.lookup (p, t)).isSome = true
  · rw [if_pos h, if_pos h]
    unfold ppK
    rw [List.map_map, List.map_map]
    refine List.map_congr_left fun q _ => ?_
    show (if ([.inl q.1.1, .inl q.1.2] : List Key) = [.inl p, .inl t] then _ else _) = (([.inl (if q.1 = (p, t) then (q.1, n) else q).1.1, .inl (if q.1 = (p, t) then (q.1, n) else q).1.2] : List Key), V.int (if q.1 = (p, t) then (q.1, n) else q).2)
    by_cases hq : q.1 = (p, t)
    · rw [if_pos hq, if_pos (by rw [hq])]
    · rw [if_neg hq, if_neg]
      intro e
      injection e with e1 e2
      injection e2 with e2 _
      exact hq (Prod.ext (Sum.inl.inj e1) (Sum.inl.inj e2))
  · rw [if_neg h, if_neg h]
    unfold ppK
    rw [List.map_append]
    rfl
theorem inn_note (m : Led) (p t p' : Int) : inn (noteM m p t) p' = if p' = p then putI (inn m p) t (getI (inn m p) t + 1) else inn m p' := by
  show ((putA m p (putI (inn m p) t (getI (inn m p) t + 1))).lookup p').getD [] = _
  rw [lk_put]
  by_cases h : p' = p
  · rw [if_pos h, if_pos h]; rfl
  · rw [if_neg h, if_neg h]; rfl
theorem rdG_put (nm : List ((Int × Int) × Int)) (p t n p' t' : Int) : rdG (putA nm (p, t) n) p' t' = if p' = p ∧ t' = t then n else rdG nm p' t' := by
  unfold rdG
  rw [lk_put]
  by_cases h : p' = p ∧ t' = t
  · rw [if_pos h, if_pos (by rw [h.1, h.2])]; rfl
  · rw [if_neg h, if_neg fun e => h ⟨congrArg (·.1) e, congrArg (·.2) e⟩]
structure Cn (m : Led) (nm : List ((Int × Int) × Int)) : Prop where
  c : Cnt m nm
  mn : (m.map (·.1)).Nodup
  mi : ∀ p ∈ m.map (·.1), p ∈ placeL
  nn : (nm.map (·.1)).Nodup
  nk : ∀ q ∈ nm.map (·.1), q ∈ placeL.flatMap fun p => tos.map fun t => (p, t)
theorem Cn.nil : Cn [] [] := ⟨⟨fun _ _ => rfl, fun _ _ h => (by cases h), fun _ _ h => (by cases h), fun _ => List.nodup_nil⟩, List.nodup_nil, fun _ h => (by cases h), List.nodup_nil, fun _ h => (by cases h)⟩
theorem Cn.put {m : Led} {nm : List ((Int × Int) × Int)} (h : Cn m nm) {p t : Int} (hp : p ∈ placeL) (ht : t ∈ tos) : Cn (noteM m p t) (putA nm (p, t) (rdG nm p t + 1)) := by
  refine ⟨⟨fun p' t' => ?_, fun p' t' => ?_, fun p' t' => ?_, fun p' => ?_⟩, nd_put h.mn p _, fun x hx => ?_, nd_put h.nn (p, t) _, fun q hq => ?_⟩
  · rw [rdG_put, inn_note, h.c.same p t, h.c.same p' t']
    by_cases h1 : p' = p
    · subst h1
      rw [if_pos rfl, getI_put]
      by_cases h2 : t' = t
      · rw [if_pos ⟨rfl, h2⟩, if_pos h2]
      · rw [if_neg fun z => h2 z.2, if_neg h2]
    · rw [if_neg fun z => h1 z.1, if_neg h1]
  · rw [inn_note]
    by_cases h1 : p' = p
    · rw [if_pos h1]
      intro hx
      rcases put_mem hx with hx | hx
      · exact h.c.key p t' hx
      · rw [hx]; exact ht
    · rw [if_neg h1]; exact h.c.key p' t'
  · rw [inn_note]
    by_cases h1 : p' = p
    · rw [if_pos h1]
      intro hx
      rw [getI_put]
      by_cases h2 : t' = t
      · rw [if_pos h2]
        by_cases h3 : t ∈ (inn m p).map (·.1)
        · have := h.c.pos p t h3; omega
        · rw [get_none h3]; omega
      · rw [if_neg h2]
        rcases put_mem hx with hx | hx
        · exact h.c.pos p t' hx
        · exact (h2 hx).elim
    · rw [if_neg h1]; exact h.c.pos p' t'
  · rw [inn_note]
    by_cases h1 : p' = p
    · rw [if_pos h1]; exact put_nodup _ _ (h.c.nd p)
    · rw [if_neg h1]; exact h.c.nd p'
  · rcases in_put hx with hx | hx
    · exact h.mi x hx
    · rw [hx]; exact hp
  · rcases in_put hq with hq | hq
    · exact h.nk q hq
    · rw [hq]
      exact List.mem_flatMap.mpr ⟨p, hp, List.mem_map.mpr ⟨t, ht, rfl⟩⟩
theorem Cn.lm {m : Led} {nm : List ((Int × Int) × Int)} (h : Cn m nm) : m.length < 100 := by
  have h1 : (m.map (·.1)).length ≤ placeL.length := h.mn.length_le_of_subset fun t ht => h.mi t ht
  rw [List.length_map] at h1
  have h2 : placeL.length = 8 := rfl
  omega
theorem Cn.ln {m : Led} {nm : List ((Int × Int) × Int)} (h : Cn m nm) : nm.length < 100 := by
  have h1 : (nm.map (·.1)).length ≤ (placeL.flatMap fun p => tos.map fun t => (p, t)).length := h.nn.length_le_of_subset fun t ht => h.nk t ht
  rw [List.length_map] at h1
  have h2 : (placeL.flatMap fun p => tos.map fun t => (p, t)).length = 56 := rfl
  omega
theorem stP_in (d : Int) : stP d ∈ placeL := by
  unfold stP
  have h : (d % 8).toNat < placeL.length := by have : placeL.length = 8 := rfl; omega
  rw [List.getD_eq_getElem?_getD, List.getElem?_eq_getElem h]
  exact List.getElem_mem h
theorem stT_in (d : Int) : stT d ∈ tos := by
  have hl : toL.length = 6 := rfl
  have h : (d / 8 % 6).toNat < toL.length := by omega
  have h2 : stT d ∈ toL := by
    unfold stT
    rw [List.getD_eq_getElem?_getD, List.getElem?_eq_getElem h]
    exact List.getElem_mem h
  revert h2
  generalize stT d = z
  intro h2
  simp only [toL, List.mem_cons, List.not_mem_nil, or_false] at h2
  rcases h2 with h | h | h | h | h | h <;> subst h <;> decide
end
section
variable {P : Program} {w : World} {K : PySem.W.Frag} {mg : Str → Option Value} {base : Heap}
def spCi (C : Addr) : Sp := fun vs H Q _ => ∃ (a dx : Addr), vs = [.ref a] ∧ H a = some (.ins C dx []) ∧ ∀ D H', H D = none → H' a = some (.ins C dx [("led", .ref D)]) → H' D = some (.dK []) → (∀ b o, b ≠ a → H b = some o → H' b = some o) → Q .non H'
def CiFn (P : Program) (w : World) (K : PySem.W.Frag) (mg : Str → Option Value) (base : Heap) (k : Nat) (C : Addr) : Prop :=
  ∃ f fd ps, FnOk P w K mg base CX0 k f fd ps (spCi C) ∧ Mk K C f ∧ Binds K fd ps []
theorem ci_init {C : Addr} (CC : ClsC K mg C) {f : Addr} {fd : FuncData} (F : Fun K "__init__" "Counts.__init__" s_Counts_init f fd) (hm : Mk K C f) : CiFn P w K mg base 1 C := by
  refine ⟨f, fd, ["self"], F.ok sc_Counts_init (fun vs H Q E ⟨a, dx, e, _⟩ => by rw [e]; rfl) ?_, hm, F.binds fun _ _ _ _ _ _ us hl => match us, hl with | [_], _ => rfl⟩
  rintro cdv A outer s H vs Q E hr ⟨a, dx, e, ha, q⟩
  subst e
  refine ⟨_, pss_one (ps_fld (pv 0) pe_dnewK rfl), ?_⟩
  intro D hD
  have haD : a ≠ D := ne_of_none ha hD
  refine ⟨.ref a, rfl, a, C, dx, [], rfl, by rw [upd_ne haD]; exact ha, CC.cl, CC.n1, by decide, ?_⟩
  refine q D _ hD (by rw [upd_same]; rfl) (by rw [upd_ne (Ne.symm haD), upd_same]) fun b o hb e => ?_
  rw [upd_ne hb, upd_ne (ne_of_none e hD)]
  exact e
theorem pe_ct0 {X : Cx} {C : Addr} {k : Nat} {pos p : Pos} (D : CiFn X.prog X.w X.K X.mg X.base k C) (hr : Room (k + 1) X.A) (hg : Gl X "Counts") (hm : X.mg "Counts" = some (.ref C)) :
    PE X (.Call (.Name "Counts" p) [] [] pos) (tNew2 (fun R : CtR => R.ins = []) (fun R => R.L) (fun R => CtZ C R []) fun R => R.a) := by
  obtain ⟨f, fd, ps, ok, mk, hb⟩ := D
  refine (pe_make0 (E := E0) (dvs := []) (ds := []) mk ok hr hg hm hb .nil pass0).imp fun σ H Q q => ?_
  intro x dx hx hdx hne
  refine ⟨x, dx, rfl, upd_same, fun D H' hD h1 h2 hk => ⟨rfl, ?_⟩⟩
  have hDx : D ≠ x := fun z => by rw [z, upd_same] at hD; cases hD
  have hDd : D ≠ dx := fun z => by rw [z, upd_ne hne, upd_same] at hD; cases hD
  have hxd : H' dx = some (.own x) := hk dx _ hne (by rw [upd_ne hne, upd_same])
  refine q ⟨x, dx, D, []⟩ H' rfl ⟨h1, hxd, ?_, [], h2, .nil⟩ fun c o e => ?_
  · show [x, dx, D].Nodup
    simp [Ne.symm hne, Ne.symm hDx, Ne.symm hDd]
  · have c1 : c ≠ x := ne_of_none e hx
    have c2 : c ≠ dx := ne_of_none e hdx
    have e' : upd (upd H dx (.own x)) x (.ins C dx []) c = some o := by rw [upd_ne c1, upd_ne c2]; exact e
    have c3 : c ≠ D := ne_of_none e' hD
    show lef [x, dx, D] H' c = some o
    rw [lef_ne (by simp [c1, c2, c3])]
    exact hk c o c1 e'
def spSt : Sp := fun vs H Q _ => ∃ z : Int, vs = [.int z] ∧ ∀ b H', Same H H' → H' b = some (.tup [.int (stP z), .int (stT z)]) → Q (.ref b) H'
def StFn (P : Program) (w : World) (K : PySem.W.Frag) (mg : Str → Option Value) (base : Heap) (k : Nat) : Prop :=
  ∃ f fd ps, FnOk P w K mg base CX0 k f fd ps spSt ∧ mg "_law_step" = some (.ref f) ∧ PySem.W.keepIn K (.ref f) = true ∧ Binds K fd ps []
theorem st_step {f : Addr} {fd : FuncData} (F : Fun K "_law_step" "_law_step" s_law_step f fd) (hm : mg "_law_step" = some (.ref f)) : StFn P w K mg base 1 := by
  refine ⟨f, fd, ["draw"], F.ok sc_law_step (fun vs H Q E ⟨z, e, _⟩ => by rw [e]; rfl) ?_, hm, F.kp, F.binds fun _ _ _ _ _ _ us hl => match us, hl with | [_], _ => rfl⟩
  rintro cdv A outer s H vs Q E hr ⟨z, e, q⟩
  subst e
  refine ⟨_, pss_cons (sv_set (G := startG ["draw", "place", "to"] [.int z]) (i := 1) (d := .int (stP z)) sc_law_step.nd rfl (Or.inl rfl) (ev_ixL (ds := placeL.map PyData.int) (ev_lst (av_cons ev_int (av_cons ev_int (av_cons ev_int (av_cons ev_int (av_cons ev_int (av_cons ev_int (av_cons ev_int (av_cons ev_int av_nil)))))))) (by walk_at "sz")) (ev_bin (ev_var 0 (by rfl) (pv 0)) ev_int (by walk_at "od")) (at_intsC (by omega) (show z % 8 < (8 : Int) by omega))))
    (pss_cons (sv_set (G := [some (.int z), some (.int (stP z)), none]) (i := 2) (d := .int (stT z)) sc_law_step.nd rfl (Or.inl rfl) (ev_ixL (ds := toL.map PyData.int) (ev_lst (av_cons ev_int (av_cons ev_int (av_cons ev_int (av_cons ev_int (av_cons ev_int (av_cons ev_int av_nil)))))) (by walk_at "sz")) (ev_bin (ev_bin (ev_var 0 (by rfl) (pv 0)) ev_int (by walk_at "od")) ev_int (by walk_at "od")) (at_intsC (by omega) (show z / 8 % 6 < (6 : Int) by omega))))
      (pss_one (ps_ret (pe_tup (av_cons (G := [some (.int z), some (.int (stP z)), some (.int (stT z))]) (ev_var (d := .int (stP z)) 1 (by rfl) (pv 1)) (av_cons (ev_var (d := .int (stT z)) 2 (by rfl) (pv 2)) av_nil)))))), ?_⟩
  refine ⟨SD.start (.cons (.int z) .nil), fun σ1 H1 s1 h1 => ⟨h1, fun σ2 H2 s2 h2 => ⟨h2, fun vs H3 s3 dv => ?_⟩⟩⟩
  obtain ⟨v1, v2, rfl, e1, e2⟩ := dv.two
  have e1 := e1.of_int
  have e2 := e2.of_int
  subst e1 e2
  refine ⟨by rw [sizeLine_eq]; show 2 ≤ 16777216; decide, fun b hb => q b _ (((s1.trans s2).trans s3).trans (Same.new hb)) upd_same⟩
end
section
variable {P : Program} {w : World} {K : PySem.W.Frag} {mg : Str → Option Value} {base : Heap}
structure Y5 where
  o : Option Addr
  R : Bool → CtR
  m : Bool → Led
  n : Bool → List ((Int × Int) × Int)
def zs5 (t : CoT) (C pb pn : Addr) (d : Bool → Addr) (y : Y5) : List Zt := [(t.L y.o, t.I y.o), ((y.R false).L, CtZ C (y.R false) (y.m false)), ((y.R true).L, CtZ C (y.R true) (y.m true)), ([pb], Rf pb [.ref (y.R false).a, .ref (y.R true).a]), ([d false], Pz (d false) (y.n false)), ([d true], Pz (d true) (y.n true)), ([pn], Rf pn [.ref (d false), .ref (d true)])]
def Y5.setR (y : Y5) (w : Bool) (R' : CtR) (m' : Led) : Y5 := ⟨y.o, fun b => if b = w then R' else y.R b, fun b => if b = w then m' else y.m b, y.n⟩
def Y5.setN (y : Y5) (w : Bool) (n' : List ((Int × Int) × Int)) : Y5 := ⟨y.o, y.R, y.m, fun b => if b = w then n' else y.n b⟩
def Y5.setO (y : Y5) (o : Option Addr) : Y5 := ⟨o, y.R, y.m, y.n⟩
abbrev bI (w : Bool) : Int := if w then 1 else 0
section
variable {t : CoT} {C pb pn : Addr} {d : Bool → Addr} {y : Y5}
theorem zs_ges : Ges (zs5 t C pb pn d y) := by
  intro z hz
  simp only [zs5, List.mem_cons, List.not_mem_nil, or_false] at hz
  rcases hz with rfl | rfl | rfl | rfl | rfl | rfl | rfl
  · exact ge_T
  · exact ge_C
  · exact ge_C
  · exact ge_R
  · exact ge_P
  · exact ge_P
  · exact ge_R
theorem zs_R (w : Bool) : ∃ A B, zs5 t C pb pn d y = A ++ ((y.R w).L, CtZ C (y.R w) (y.m w)) :: B ∧ ∀ R' m', R'.a = (y.R w).a → zs5 t C pb pn d (y.setR w R' m') = A ++ (R'.L, CtZ C R' m') :: B := by
  cases w with
  | false => exact ⟨[_], _, rfl, fun R' m' e => by
      show zs5 t C pb pn d ⟨y.o, _, _, y.n⟩ = _
      unfold zs5
      simp only [if_pos, List.cons_append, List.nil_append]
      simp [e]⟩
  | true => exact ⟨[_, _], _, rfl, fun R' m' e => by
      show zs5 t C pb pn d ⟨y.o, _, _, y.n⟩ = _
      unfold zs5
      simp [e]⟩
theorem zs_N (w : Bool) : ∃ A B, zs5 t C pb pn d y = A ++ ([d w], Pz (d w) (y.n w)) :: B ∧ ∀ n', zs5 t C pb pn d (y.setN w n') = A ++ ([d w], Pz (d w) n') :: B := by
  cases w with
  | false => exact ⟨[_, _, _, _], _, rfl, fun n' => rfl⟩
  | true => exact ⟨[_, _, _, _, _], _, rfl, fun n' => rfl⟩
theorem zs_C (w : Bool) : ((y.R w).L, CtZ C (y.R w) (y.m w)) ∈ zs5 t C pb pn d y := let ⟨A, B, e, _⟩ := zs_R w; e ▸ mem_mid.mpr (.inl rfl)
theorem zs_pb {H : Hp} (h : TZ (zs5 t C pb pn d y) H) : H pb = some (.lst [.ref (y.R false).a, .ref (y.R true).a]) := h.2 ([pb], Rf pb [.ref (y.R false).a, .ref (y.R true).a]) (by simp [zs5])
theorem zs_pn {H : Hp} (h : TZ (zs5 t C pb pn d y) H) : H pn = some (.lst [.ref (d false), .ref (d true)]) := h.2 ([pn], Rf pn [.ref (d false), .ref (d true)]) (by simp [zs5])
theorem at_b {α : Type} {f : Bool → α} (w : Bool) : atI [f false, f true] (bI w) = some (f w) := by cases w <;> rfl
end
section
variable {X : Cx} {t : CoT} {C pb pn : Addr} {d : Bool → Addr} {y : Y5} {rs : List (Nat × Addr)} {G : Gam} {w : Bool} {k : Nat} {e1 e2 : Expr} {o o2 e : Expr} {es : List Expr} {p q : Int} {pos pos2 apos p1 : Pos}
theorem ps_note {pl : Sem Bool} (cl : Cls X.K C) (D : NtFn X.prog X.w X.K X.mg X.base k C) (hr : Room k X.A) (hc : Cn (y.m w) (y.n w)) (ho : PE X o (tAt X.K (LZ (zs5 t C pb pn d y)) (TZ (zs5 t C pb pn d y)) rs G (.ref (y.R w).a))) (ha : AV X G (e :: es) [.int p, .int q])
    (hst : starEach (e :: es) X.env = (false, eval e X.env) :: starEach es X.env := by rfl) (hpl : (backTo pos (starEach es X.env)).any (·.1) = false := by rfl)
    (ht : eval (.Call (.Attribute o "note" apos) (e :: es) [] pos) X.env = (do
      let ov ← eval o X.env
      standAt apos.atName
      let (f, first) ← holding [ov] (getMethod ov "note" pl)
      callWith pos f first (backTo pos (starEach (e :: es) X.env)) (backToKw pos (keywordEach [] X.env))) := by rfl)
    (hs : swapsWith (.Call (.Attribute o "note" apos) (e :: es) [] pos) none pos2.line X.env = pure false := by rfl) :
    PS X (.Expr (.Call (.Attribute o "note" apos) (e :: es) [] pos) pos2) (zV X.K (LZ (zs5 t C pb pn d y)) (TZ (zs5 t C pb pn d y)) rs G (fun L' σ' H' => ∃ R', R'.a = (y.R w).a ∧ L' = LZ (zs5 t C pb pn d (y.setR w R' (noteM (y.m w) p q))) ∧ RZ X.K L' (TZ (zs5 t C pb pn d (y.setR w R' (noteM (y.m w) p q)))) rs G σ' H') noRt) := by
  obtain ⟨f, fd, ps, ok, hm, hb⟩ := D
  refine (ps_expr (pe_meth (E := E0) (dvs := []) (ds := []) ho cl hm ok hr hb .nil pass0 ha hst hpl ht) hs).imp fun D σ H ⟨r, q1, _⟩ => ⟨r, fun H1 r1 s1 => ?_⟩
  have hz1 : CtZ C (y.R w) (y.m w) H1 := r1.2.1.2 _ (zs_C w)
  refine ⟨(y.R w).a, (y.R w).dx, _, rfl, hz1.1, by rw [List.lookup_cons, show (("note" : Str) == ("led" : Str)) = false from by decide]; rfl, r1.sd, fun vs H2 s2 dv => ?_⟩
  obtain ⟨v1, v2, rfl, d1, d2⟩ := dv.two
  have d1 := d1.of_int
  have d2 := d2.of_int
  subst d1 d2
  have r2 := r1.step zs_ges.ok s2
  have hz2 : CtZ C (y.R w) (y.m w) H2 := r2.2.1.2 _ (zs_C w)
  refine ⟨y.R w, y.m w, p, q, hz2, hc.mn, by have := hc.lm; omega, by have := hc.c.len p; omega, rfl, fun R' H' ea hz s => ?_⟩
  obtain ⟨A, B, e1, e2⟩ := zs_R (t := t) (C := C) (pb := pb) (pn := pn) (d := d) (y := y) w
  have t2 := r2.2.1
  have g := zs_ges (t := t) (C := C) (pb := pb) (pn := pn) (d := d) (y := y)
  rw [e1] at t2 g
  obtain ⟨t3, s3⟩ := tz_chE (it := ((y.R w).L, CtZ C (y.R w) (y.m w))) (it' := (R'.L, CtZ C R' (noteM (y.m w) p q))) g t2 s hz
  rw [← e1, ← e2 R' _ ea] at s3
  rw [← e2 R' _ ea] at t3
  have sT := ((s1.trans s2).lef).trans s3
  exact q1 _ _ _ ⟨R', ea, rfl, rz_at r t3 sT⟩ sT
theorem pe_good {x : Str} {p0 : Pos} (D : TbFn X.prog X.w X.K X.mg X.base k t x (F_good C)) (hr : Room k X.A) (hg : Gl X x) (hc : Cn (y.m w) (y.n w)) (h1 : PE X o (tAt X.K (LZ (zs5 t C pb pn d y)) (TZ (zs5 t C pb pn d y)) rs G (.ref (y.R w).a))) (h2 : PE X o2 (tAt X.K (LZ (zs5 t C pb pn d y)) (TZ (zs5 t C pb pn d y)) rs G (.ref (d w)))) (h3 : EV X G e (.int p))
    (hdb : (x == ("__debug__" : Str)) = false := by decide) (he : starEach [o, o2, e] X.env = (false, eval o X.env) :: starEach [o2, e] X.env := by rfl) (he2 : starEach [o2, e] X.env = (false, eval o2 X.env) :: starEach [e] X.env := by rfl) (he3 : starEach [e] X.env = (false, eval e X.env) :: starEach [] X.env := by rfl) (hpl : (backTo pos (starEach [o2, e] X.env)).any (·.1) = false := by rfl) :
    PE X (.Call (.Name x p0) [o, o2, e] [] pos) (zEE X.K (LZ (zs5 t C pb pn d y)) (TZ (zs5 t C pb pn d y)) rs G true (fun o' : Option Addr => LZ (zs5 t C pb pn d (y.setO o'))) fun o' => TZ (zs5 t C pb pn d (y.setO o'))) := by
  obtain ⟨f, fd, ps, ok, hm, hk, hb⟩ := D
  refine (pe_call (E := E0) (dvs := []) (ds := []) ok hr hg hm hk hb .nil pass0 (pa_cons h1 (pa_cons h2 (pa_cons h3 pa_nil he3) he2) he) hdb he hpl).imp fun σ H Q ⟨r, q⟩ => ⟨r, fun H1 r1 s1 => ⟨r1, fun H2 r2 s2 => ⟨r2.sd, fun v H3 s3 dv => ?_⟩⟩⟩
  have ev := dv.of_int
  subst ev
  have r3 := r2.step zs_ges.ok s3
  have tz := r3.2.1
  have g := zs_ges (t := t) (C := C) (pb := pb) (pn := pn) (d := d) (y := y)
  have e0 : zs5 t C pb pn d y = [] ++ (t.L y.o, t.I y.o) :: (zs5 t C pb pn d y).tail := rfl
  have hin : ∀ it, it ∈ (zs5 t C pb pn d y).tail → it.2 (lef (t.L y.o) H3) := fun it hi => tz_in (it := (t.L y.o, t.I y.o)) e0 tz g hi
  have hC : CtZ C (y.R w) (y.m w) (lef (t.L y.o) H3) := hin ((y.R w).L, CtZ C (y.R w) (y.m w)) (by cases w <;> simp [zs5])
  have hP : Pz (d w) (y.n w) (lef (t.L y.o) H3) := hin ([d w], Pz (d w) (y.n w)) (by cases w <;> simp [zs5])
  refine ⟨y.o, [ctD C (y.m w), .dict (ppE (y.n w)), .int p], .bool true, tz.2 (t.L y.o, t.I y.o) List.mem_cons_self, .cons hC.dv (.cons (.dtt hP) (.cons (.int p) .nil)), ⟨_, _, _, hc.c, rfl, rfl⟩, fun o' v H' i' s' dv' => ?_⟩
  have ev := dv'.of_bl
  subst ev
  rw [e0] at tz g
  obtain ⟨t4, s4⟩ := tz_chE (A := []) (it := (t.L y.o, t.I y.o)) (it' := (t.L o', t.I o')) g tz s' i'
  exact q o' H' t4 ((((s1.trans s2).trans s3).lef).trans s4)
theorem ps_step {z : Int} {j : Nat} {x : Str} {L : List Addr} {I : Hp → Prop} {x0 : Pos} (okI : ZOk L I) (D : StFn X.prog X.w X.K X.mg X.base k) (hr : Room k X.A) (hg : Gl X "_law_step") (h : EV X G e (.int z)) (hN : X.N.Nodup) (hj : X.N[j]? = some x) (hj0 : j ∉ rs.map (·.1)) (hx : Loc X.env.scope x)
    (he : starEach [e] X.env = (false, eval e X.env) :: starEach [] X.env := by rfl) (hpl : (backTo pos (starEach [] X.env)).any (·.1) = false := by rfl)
    (hs : swapsWith (.Call (.Name "_law_step" x0) [e] [] pos) (some (.Name x p1)) pos2.line X.env = pure false := by rfl)
    (hfn : X.fn x = true ∨ X.env.scope.names.lookup x = some .local := by first | exact .inl rfl | exact .inr rfl | assumption) (hlen : j < G.length) :
    PS X (.Assign [.Name x p1] (.Call (.Name "_law_step" x0) [e] [] pos) pos2) (zV X.K L I rs G (fun L' σ' H' => ∃ b, True ∧ L' = L ∧ RZ X.K L (wF L I b (.tup [.int (stP z), .int (stT z)])) ((j, b) :: rs) (G.set j (some (.tuple [.int (stP z), .int (stT z)]))) σ' H') noRt) := by
  obtain ⟨f, fd, ps, ok, hm, hk, hb⟩ := D
  refine (ps_set hN hj hx (pe_call (E := E0) (dvs := []) (ds := []) ok hr hg hm hk hb .nil pass0 (av_cons h av_nil he) (by decide) he hpl) hs hfn).imp fun D σ H ⟨r, q1, _⟩ => ⟨r.sd, fun vs H1 s1 dv => ?_⟩
  obtain ⟨v1, rfl, d1⟩ := dv.one
  have ev := d1.of_int
  subst ev
  refine ⟨z, rfl, fun b H' s hb => ?_⟩
  have r1 := (r.step okI s1).step okI s
  have hbL : b ∉ L := fun hm => okI.notup r1.2.1 b hm _ (.inl hb)
  have hb2 : lef L H' b = some (.tup [.int (stP z), .int (stT z)]) := by rw [lef_ne hbL]; exact hb
  refine q1 L _ _ ⟨b, True.intro, rfl, fun z hz => ?_, ⟨r1.2.1, hb2⟩, r1.2.2.set (.tup (.inl (.inl hb2)) (.cons (.int _) (.cons (.int _) .nil)))⟩ (s1.trans s).lef
  rcases List.mem_cons.mp hz with e | hz
  · subst e
    exact List.getElem?_set_self (by rw [r.2.2.1]; exact hlen)
  · rw [List.getElem?_set_ne fun w => hj0 (List.mem_map.mpr ⟨z, hz, w.symm⟩)]
    exact r.1 z hz
end
end
section
variable {P : Program} {w : World} {K : PySem.W.Frag} {mg : Str → Option Value} {base : Heap}
def spL5 (K : PySem.W.Frag) (Ta : Addr) : Sp := fun vs H Q _ => ∃ (a : Addr) (ns : List Int), vs = [.ref a] ∧ H Ta = some (.tbl #[]) ∧ SqL K H a (ns.map V.int) ∧ a ≠ Ta ∧ ∀ H', Q (.bl true) H'
abbrev fr5 (ns : List Int) (c3 c4 c5 c6 c7 c8 c9 : Option PyData) : Gam := [some (.list (ns.map PyData.int)), none, none, c3, c4, c5, c6, c7, c8, c9]
def Good5 (y : Y5) : Prop := ∀ w, Cn (y.m w) (y.n w)
theorem Good5.setO {y : Y5} (h : Good5 y) (o : Option Addr) : Good5 (y.setO o) := h
theorem Good5.note {y : Y5} (h : Good5 y) (w : Bool) (R' : CtR) (z : Int) : Good5 ((y.setR w R' (noteM (y.m w) (stP z) (stT z))).setN w (putA (y.n w) (stP z, stT z) (rdG (y.n w) (stP z) (stT z) + 1))) := fun b => by
  by_cases hb : b = w
  · subst hb
    show Cn (if b = b then _ else _) (if b = b then _ else _)
    rw [if_pos rfl, if_pos rfl]
    exact (h b).put (stP_in z) (stT_in z)
  · show Cn (if b = w then _ else _) (if b = w then _ else _)
    rw [if_neg hb, if_neg hb]
    exact h b
theorem cut_63 (ns : List Int) : ∃ ms : List Int, cutD (ns.map PyData.int) none (some 63) = ms.map PyData.int := by
  unfold cutD
  exact ⟨(ns.drop (HT.sIx (ns.map PyData.int).length 0 none)).take (HT.sIx (ns.map PyData.int).length (ns.map PyData.int).length (some 63) - HT.sIx (ns.map PyData.int).length 0 none), by rw [List.map_take, List.map_drop]⟩
theorem bI_mod (c : Int) : ∃ w : Bool, c % 2 = bI w := by
  have h : c % 2 = 0 ∨ c % 2 = 1 := by omega
  rcases h with h | h
  · exact ⟨false, h⟩
  · exact ⟨true, h⟩
theorem bI_not (w : Bool) : (1 : Int) - bI w = bI (!w) := by cases w <;> rfl
section
variable {X : Cx} {t : CoT} {C pb pn : Addr} {d : Bool → Addr} {y : Y5} {rs : List (Nat × Addr)} {G : Gam} {w : Bool} {x : Str} {bx : Expr} {pos pos2 : Pos}
theorem pe_bothZ (hi : (1, pb) ∈ rs) (hv : PE X (.Name x pos2) (tVar 1)) (hb : EV X G bx (.int (bI w))) (hs : PlainIx bx := by intro _ _; rfl) : PE X (.Subscript (.Name x pos2) bx pos) (tAt X.K (LZ (zs5 t C pb pn d y)) (TZ (zs5 t C pb pn d y)) rs G (.ref (y.R w).a)) :=
  pe_refZ zs_ges.ok (fun H t => zs_pb t) hi hv hb (at_b (f := fun b => V.ref (y.R b).a) w) hs
theorem pe_notedZ (hi : (2, pn) ∈ rs) (hv : PE X (.Name x pos2) (tVar 2)) (hb : EV X G bx (.int (bI w))) (hs : PlainIx bx := by intro _ _; rfl) : PE X (.Subscript (.Name x pos2) bx pos) (tAt X.K (LZ (zs5 t C pb pn d y)) (TZ (zs5 t C pb pn d y)) rs G (.ref (d w))) :=
  pe_refZ zs_ges.ok (fun H t => zs_pn t) hi hv hb (at_b (f := fun b => V.ref (d b)) w) hs
theorem pe_notedW {b : Addr} {o : HO} (hi : (2, pn) ∈ rs) (hv : PE X (.Name x pos2) (tVar 2)) (hb : EV X G bx (.int (bI w))) (hs : PlainIx bx := by intro _ _; rfl) : PE X (.Subscript (.Name x pos2) bx pos) (tAt X.K (LZ (zs5 t C pb pn d y)) (wF (LZ (zs5 t C pb pn d y)) (TZ (zs5 t C pb pn d y)) b o) rs G (.ref (d w))) :=
  pe_refZ (wF_ok zs_ges.ok) (fun H t => zs_pn t.1) hi hv hb (at_b (f := fun b => V.ref (d b)) w) hs
end
theorem ne_rs {pn pb : Addr} {j : Nat} (h2 : (2 : Nat) ≠ j) (h1 : (1 : Nat) ≠ j) : ∀ q ∈ [((2 : Nat), pn), (1, pb)], q.1 ≠ j := fun q hq => by
  rcases List.mem_cons.mp hq with e | hq
  · rw [e]; exact h2
  · rw [List.mem_singleton.mp hq]; exact h1
set_option maxHeartbeats 8000000 in
theorem ok_law (T : Txt mg) {C Ta : Addr} (CC : ClsC K mg C) (C_init : CiFn P w K mg base 1 C) (N_note : NtFn P w K mg base 1 C) (S_step : StFn P w K mg base 1) (D_step : DFn P w K mg base 1 "_law_step" F_stp) (T_good : TbFn P w K mg base 3 (tb54 Ta) "_law_good" (F_good C)) {f : Addr} {fd : FuncData} (F : Fun K "law" "law" s_law f fd) : FnOk P w K mg base CX0 20 f fd ["script"] (spL5 K Ta) := by
  refine F.ok sc_law (fun vs H Q E ⟨_, _, e, _⟩ => by rw [e]; rfl) ?_
  rintro cdv A outer s H vs Q E hr ⟨a, ns, e, hT, hS, haT, q⟩
  subst e
  refine ⟨zV K ((tb54 Ta).L none) ((tb54 Ta).I none) [] (fr5 ns none none none none none none none) (fun _ _ _ => False) (fun _ v _ => v = .bl true), ?_, ⟨(fun _ h => by cases h), hT, ?_⟩, fun _ _ _ f => f.elim, fun L' v H' e _ => by rw [e]; exact q H'⟩
  · refine zv_tz1 (it := ((tb54 Ta).L none, (tb54 Ta).I none)) ?_
    have g0 : Ges [((tb54 Ta).L none, (tb54 Ta).I none)] := ges_one ge_T
    refine zv_consE (fun q : Addr × CtR × CtR => q.2.1.ins = [] ∧ q.2.2.ins = []) (ps_newTwo (j := 1) g0 (fun R => ge_C) sc_law.nd rfl (by show 1 ∉ []; decide) (Or.inl rfl) rfl (pe_ct0 C_init (by walk_at "rm") (by rfl) CC.at_) (pe_ct0 C_init (by walk_at "rm") (by rfl) CC.at_)) ?_
    rintro ⟨pb, R0, R1⟩ ⟨e0, e1⟩
    refine zv_consE (fun q : Addr × Addr × Addr => True ∧ True) (ps_newTwo (j := 2) (ges_app (ges_app (ges_app g0 (ges_one ge_C)) (ges_one ge_C)) (ges_one ge_R)) (fun R => ge_P) sc_law.nd rfl (by show 2 ∉ [1]; decide) (Or.inl rfl) rfl pe_newP pe_newP) ?_
    rintro ⟨pn, d0, d1⟩ _
    obtain ⟨d, ed⟩ : ∃ d : Bool → Addr, d = fun b => cond b d1 d0 := ⟨_, rfl⟩
    obtain ⟨y0, ey0⟩ : ∃ y : Y5, y = ⟨none, fun b => cond b R1 R0, fun _ => [], fun _ => []⟩ := ⟨_, rfl⟩
    have hg0 : Good5 y0 := by rw [ey0]; exact fun w => Cn.nil
    have ez : [((tb54 Ta).L none, (tb54 Ta).I none)] ++ [(R0.L, CtZ C R0 [])] ++ [(R1.L, CtZ C R1 [])] ++ [([pb], Rf pb [.ref R0.a, .ref R1.a])] ++ [([d0], Pz d0 [])] ++ [([d1], Pz d1 [])] ++ [([pn], Rf pn [.ref d0, .ref d1])] = zs5 (tb54 Ta) C pb pn d y0 := by rw [ed, ey0]; rfl
    show PSs _ _ (zV K (LZ ([((tb54 Ta).L none, (tb54 Ta).I none)] ++ [(R0.L, CtZ C R0 [])] ++ [(R1.L, CtZ C R1 [])] ++ [([pb], Rf pb [.ref R0.a, .ref R1.a])] ++ [([d0], Pz d0 [])] ++ [([d1], Pz d1 [])] ++ [([pn], Rf pn [.ref d0, .ref d1])])) (TZ ([((tb54 Ta).L none, (tb54 Ta).I none)] ++ [(R0.L, CtZ C R0 [])] ++ [(R1.L, CtZ C R1 [])] ++ [([pb], Rf pb [.ref R0.a, .ref R1.a])] ++ [([d0], Pz d0 [])] ++ [([d1], Pz d1 [])] ++ [([pn], Rf pn [.ref d0, .ref d1])])) [(2, pn), (1, pb)] _ _ _)
    rw [ez]
    clear ez e0 e1 ed ey0
    obtain ⟨ms, ems⟩ := cut_63 ns
    have okz : ∀ q : Y5 × Gam, ZOk (LZ (zs5 (tb54 Ta) C pb pn d q.1)) (TZ (zs5 (tb54 Ta) C pb pn d q.1)) := fun q => zs_ges.ok
    refine zv_forFE (β := Y5 × Gam) (Lo := fun q => LZ (zs5 (tb54 Ta) C pb pn d q.1)) (Io := fun q => TZ (zs5 (tb54 Ta) C pb pn d q.1)) (Go := fun q => q.2) (j := 3) (ds := ms.map PyData.int)
      (fun _ q => Good5 q.1 ∧ ∃ c3 c4 c5 c6 c7, q.2 = fr5 ns c3 c4 c5 c6 c7 none none) (y0, fr5 ns none none none none none none none) okz PassesOwn.never rfl (ne_rs (by decide) (by decide)) (pg_name (i := 3) sc_law.nd rfl (Or.inl rfl)) sees_self (by rw [← ems]; exact evf_slL (ev_var 0 (by rfl) (pv 0)) ov_none (ov_some ev_int)) (ints_nl ms) ⟨hg0, _, _, _, _, _, rfl⟩ ?body ?done
    case body =>
      rintro k dd ⟨y1, G1⟩ hdd ⟨hg1, c3, c4, c5, c6, c7, rfl⟩
      rw [List.getElem?_map] at hdd
      obtain ⟨c, _, rfl⟩ := Option.map_eq_some_iff.mp hdd
      obtain ⟨w, ew⟩ := bI_mod c
      refine zv_cons (G1 := fr5 ns (some (.int c)) (some (.int (bI w))) c5 c6 c7 none none) (zn_set (i := 4) (d := .int (bI w)) sc_law.nd rfl (by show 4 ∉ [2, 1]; decide) (Or.inl rfl) (ze_of (okz (y1, [])) (ev_eq (ev_bin (ev_var 3 (by rfl) (pv 3)) ev_int (by walk_at "od")) (by rw [ew])) rfl)) ?_
      refine zv_cons (G1 := fr5 ns (some (.int c)) (some (.int (bI w))) (some (.int (c / 14))) c6 c7 none none) (zn_set (i := 5) (d := .int (c / 14)) sc_law.nd rfl (by show 5 ∉ [2, 1]; decide) (Or.inl rfl) (ze_of (okz (y1, [])) (ev_eq (ev_bin (ev_var 3 (by rfl) (pv 3)) ev_int (by walk_at "od")) rfl) rfl)) ?_
      refine zv_forRgE (β := Y5 × Gam) (Lo := fun q => LZ (zs5 (tb54 Ta) C pb pn d q.1)) (Io := fun q => TZ (zs5 (tb54 Ta) C pb pn d q.1)) (Go := fun q => q.2) (j := 6) (n := (c / 2 % 7).toNat)
        (fun _ q => Good5 q.1 ∧ ∃ dr c6 c7, q.2 = fr5 ns (some (.int c)) (some (.int (bI w))) (some (.int dr)) c6 c7 none none) (y1, fr5 ns (some (.int c)) (some (.int (bI w))) (some (.int (c / 14))) c6 c7 none none) okz PassesOwn.never rfl (ne_rs (by decide) (by decide)) (pg_name (i := 6) sc_law.nd rfl (Or.inl rfl)) sees_self (ev_eq (ev_bin (ev_bin (ev_var 3 (by rfl) (pv 3)) ev_int (by walk_at "od")) ev_int (by walk_at "od")) (by rw [Int.toNat_of_nonneg (by omega)])) (by omega) rfl T.b_range ⟨hg1, _, _, _, rfl⟩ ?tbody ?tdone
      case tbody =>
        rintro k ⟨y2, G2⟩ hk ⟨hg2, dr, c6', c7', rfl⟩
        refine zv_consE (β := Addr) (fun _ => True) (ps_step (z := dr) (j := 7) (okz (y2, [])) S_step (by walk_at "rm") rfl (ev_var 5 (by rfl) (pv 5)) sc_law.nd rfl (by show 7 ∉ [2, 1]; decide) (Or.inl rfl) (hlen := by show 7 < 10; decide)) ?_
        intro b _
        refine zv_cons (G1 := fr5 ns (some (.int c)) (some (.int (bI w))) (some (.int (dr / 48))) (some (.int (k : Int))) (some (.tuple [.int (stP dr), .int (stT dr)])) none none) (zn_set (i := 5) (d := .int (dr / 48)) sc_law.nd rfl (by show 5 ∉ [7, 2, 1]; decide) (Or.inl rfl) (ze_of (wF_ok (okz (y2, []))) (ev_eq (ev_bin (ev_var 5 (by rfl) (pv 5)) ev_int (by walk_at "od")) rfl) rfl)) ?_
        refine zv_consE (β := CtR) (Lo := fun R' => LZ (zs5 (tb54 Ta) C pb pn d (y2.setR w R' (noteM (y2.m w) (stP dr) (stT dr))))) (Io := fun R' => wF (LZ (zs5 (tb54 Ta) C pb pn d (y2.setR w R' (noteM (y2.m w) (stP dr) (stT dr))))) (TZ (zs5 (tb54 Ta) C pb pn d (y2.setR w R' (noteM (y2.m w) (stP dr) (stT dr))))) b (.tup [.int (stP dr), .int (stT dr)])) (ro := fun _ => [(7, b), (2, pn), (1, pb)]) (Go := fun _ => fr5 ns (some (.int c)) (some (.int (bI w))) (some (.int (dr / 48))) (some (.int (k : Int))) (some (.tuple [.int (stP dr), .int (stT dr)])) none none) (fun R' => R'.a = (y2.R w).a)
          (zv_mono (zv_wF (ps_note (w := w) (p := stP dr) (q := stT dr) CC.cl N_note (by walk_at "rm") (hg2 w) (pe_bothZ (by simp) (pv 1) (ev_var 4 (by rfl) (pv 4))) (av_cons (ev_ixT (ev_var 7 (by rfl) (pv 7)) ev_int rfl) (av_cons (ev_ixT (ev_var 7 (by rfl) (pv 7)) ev_int rfl) av_nil)))) fun L' σ' H' ⟨⟨R', ea, el, rz⟩, hb⟩ => ⟨R', ea, el, by subst el; exact ⟨rz.1, ⟨rz.2.1, hb⟩, rz.2.2⟩⟩) ?_
        intro R' ea
        obtain ⟨y3, ey3⟩ : ∃ y3, y3 = y2.setR w R' (noteM (y2.m w) (stP dr) (stT dr)) := ⟨_, rfl⟩
        have hn3 : y3.n w = y2.n w := by rw [ey3]; rfl
        have hg4 : Good5 (y3.setN w (putA (y3.n w) (stP dr, stT dr) (rdG (y3.n w) (stP dr) (stT dr) + 1))) := by rw [hn3, ey3]; exact hg2.note w R' dr
        show PSs _ _ (zV K (LZ (zs5 (tb54 Ta) C pb pn d (y2.setR w R' (noteM (y2.m w) (stP dr) (stT dr))))) (wF (LZ (zs5 (tb54 Ta) C pb pn d (y2.setR w R' (noteM (y2.m w) (stP dr) (stT dr))))) (TZ (zs5 (tb54 Ta) C pb pn d (y2.setR w R' (noteM (y2.m w) (stP dr) (stT dr))))) b (.tup [.int (stP dr), .int (stT dr)])) [(7, b), (2, pn), (1, pb)] (fr5 ns (some (.int c)) (some (.int (bI w))) (some (.int (dr / 48))) (some (.int (k : Int))) (some (.tuple [.int (stP dr), .int (stT dr)])) none none) _ _)
        rw [← ey3]
        obtain ⟨A, B, e1, e2⟩ := zs_N (t := tb54 Ta) (C := C) (pb := pb) (pn := pn) (d := d) (y := y3) w
        refine zv_cons (G1 := fr5 ns (some (.int c)) (some (.int (bI w))) (some (.int (dr / 48))) (some (.int (k : Int))) (some (.tuple [.int (stP dr), .int (stT dr)])) none none) (I1 := TZ (A ++ ([d w], Pz (d w) (putA (y3.n w) (stP dr, stT dr) (rdG (y3.n w) (stP dr) (stT dr) + 1))) :: B)) (ps_cntP (i := 7) (nm := y3.n w) e1 zs_ges rfl (u1_of (by walk_at "un")) (pe_notedW (by simp) (pv 2) (ev_var 4 (by rfl) (pv 4))) (pe_notedW (by simp) (pv 2) (ev_var 4 (by rfl) (pv 4))) (by simp) (pv 7) (pv 7) (by rw [hn3]; exact Nat.lt_trans (hg2 w).ln (by decide)) (putPP _ _ _ _) ⟨rfl, rfl, rfl, rfl⟩) ?_
        rw [← e2]
        obtain ⟨y4, ey4⟩ : ∃ y4, y4 = y3.setN w (putA (y3.n w) (stP dr, stT dr) (rdG (y3.n w) (stP dr) (stT dr) + 1)) := ⟨_, rfl⟩
        have el : LZ (zs5 (tb54 Ta) C pb pn d y3) = LZ (zs5 (tb54 Ta) C pb pn d y4) := by rw [ey4]; rfl
        rw [← ey4] at hg4
        rw [← ey4, el]
        refine zv_ifFE (zte_not (k := true) (pe_good (p := stP dr) (w := w) T_good (by walk_at "rm") rfl (hg4 _) (pe_bothZ (by simp) (pv 1) (ev_var 4 (by rfl) (pv 4))) (pe_notedZ (by simp) (pv 2) (ev_var 4 (by rfl) (pv 4))) (ev_ixT (ev_var 7 (by rfl) (pv 7)) ev_int rfl))) fun o' => ?_
        exact zv_nil fun σ H rz => ⟨(y4.setO o', _), ⟨hg4.setO o', _, _, _, rfl⟩, rfl, ⟨fun z hz => rz.1 z (List.mem_cons_of_mem _ hz), rz.2⟩⟩
      case tdone =>
        rintro ⟨y2, G2⟩ ⟨hg2, dr, c6', c7', rfl⟩
        refine zv_ifFE (zte_not (k := true) (pe_good (p := stP (c / 3)) (w := !w) T_good (by walk_at "rm") rfl (hg2 _) (pe_bothZ (by simp) (pv 1) (ev_eq (ev_bin ev_int (ev_var 4 (by rfl) (pv 4)) (by walk_at "od")) (by rw [← bI_not]))) (pe_notedZ (by simp) (pv 2) (ev_eq (ev_bin ev_int (ev_var 4 (by rfl) (pv 4)) (by walk_at "od")) (by rw [← bI_not]))) (ev_ixT (ev_call D_step (by walk_at "rm") rfl (av_cons (ev_bin (ev_var 3 (by rfl) (pv 3)) ev_int (by walk_at "od")) av_nil) ⟨_, rfl, rfl⟩) ev_int rfl))) fun o' => ?_
        exact zv_nil fun σ H rz => ⟨(y2.setO o', _), ⟨hg2.setO o', _, _, _, _, _, rfl⟩, rfl, rz⟩
    case done =>
      rintro ⟨y1, G1⟩ ⟨hg1, c3, c4, c5, c6, c7, rfl⟩
      refine zv_forRgE (β := Y5 × Gam) (Lo := fun q => LZ (zs5 (tb54 Ta) C pb pn d q.1)) (Io := fun q => TZ (zs5 (tb54 Ta) C pb pn d q.1)) (Go := fun q => q.2) (j := 8) (n := 2)
        (fun _ q => Good5 q.1 ∧ ∃ c8 c9, q.2 = fr5 ns c3 c4 c5 c6 c7 c8 c9) (y1, fr5 ns c3 c4 c5 c6 c7 none none) okz PassesOwn.never rfl (ne_rs (by decide) (by decide)) (pg_name (i := 8) sc_law.nd rfl (Or.inl rfl)) sees_self ev_int (by decide) rfl T.b_range ⟨hg1, _, _, rfl⟩ ?kbody ?kdone
      case kbody =>
        rintro k ⟨y2, G2⟩ hk ⟨hg2, c8', c9', rfl⟩
        obtain ⟨w, ew⟩ : ∃ w : Bool, (k : Int) = bI w := by
          have h : (k : Int) % 2 = k := by omega
          rw [← h]
          exact bI_mod k
        rw [ew]
        refine zv_forFE (β := Y5 × Gam) (Lo := fun q => LZ (zs5 (tb54 Ta) C pb pn d q.1)) (Io := fun q => TZ (zs5 (tb54 Ta) C pb pn d q.1)) (Go := fun q => q.2) (j := 9) (ds := [0, 1, 2, 9, 15, 16, 127, 4094, 4095].map PyData.int)
          (fun _ q => Good5 q.1 ∧ ∃ c9, q.2 = fr5 ns c3 c4 c5 c6 c7 (some (.int (bI w))) c9) (y2, fr5 ns c3 c4 c5 c6 c7 (some (.int (bI w))) c9') okz PassesOwn.never rfl (ne_rs (by decide) (by decide)) (pg_name (i := 9) sc_law.nd rfl (Or.inl rfl)) sees_self (evf_lst (av_cons ev_int (av_cons ev_int (av_cons ev_int (av_cons ev_int (av_cons ev_int (av_cons ev_int (av_cons ev_int (av_cons ev_int (av_cons ev_int av_nil))))))))) (by rw [sizeLine_eq]; show 9 ≤ 16777216; decide)) (ints_nl _) ⟨hg2, _, rfl⟩ ?pbody ?pdone
        case pbody =>
          rintro k dd ⟨y3, G3⟩ hdd ⟨hg3, c9'', rfl⟩
          rw [List.getElem?_map] at hdd
          obtain ⟨pl, _, rfl⟩ := Option.map_eq_some_iff.mp hdd
          refine zv_ifFE (zte_not (k := true) (pe_good (p := pl) (w := w) T_good (by walk_at "rm") rfl (hg3 _) (pe_bothZ (by simp) (pv 1) (ev_var 8 (by rfl) (pv 8))) (pe_notedZ (by simp) (pv 2) (ev_var 8 (by rfl) (pv 8))) (ev_var 9 (by rfl) (pv 9)))) fun o' => ?_
          exact zv_nil fun σ H rz => ⟨(y3.setO o', _), ⟨hg3.setO o', _, rfl⟩, rfl, rz⟩
        case pdone =>
          rintro ⟨y3, G3⟩ ⟨hg3, c9'', rfl⟩
          exact zv_nil fun σ H rz => ⟨(y3, _), ⟨hg3, _, _, rfl⟩, rfl, rz⟩
      case kdone =>
        rintro ⟨y2, G2⟩ ⟨hg2, c8', c9', rfl⟩
        exact zv_ret (ze_of (okz (y2, [])) (ev_bl (i := true)) rfl) fun v H' _ dv => dv.of_bl
  · have hS' : SqL K (lef ((tb54 Ta).L none) H) a (ns.map V.int) := by
      have hn : a ∉ (tb54 Ta).L none := by simpa [CoT.L, tL] using haT
      rcases hS with (h | ⟨ob, h⟩) | h
      · exact .inl (.inl (by rw [lef_ne hn]; exact h))
      · exact .inl (.inr ⟨ob, by rw [lef_ne hn]; exact h⟩)
      · exact .inr h
    have hints : ∀ l : List Int, DVs K (lef ((tb54 Ta).L none) H) (l.map V.int) (l.map PyData.int) := fun l => by
      induction l with
      | nil => exact .nil
      | cons z l ih => exact .cons (.int z) ih
    exact SD.start (.cons (.lst hS' (hints ns)) .nil)
end
section
variable {P : Program} {w : World} {K : PySem.W.Frag} {mg : Str → Option Value} {base : Heap}
def MthIn (K : PySem.W.Frag) (C : Addr) (m qual : Str) (st : Stmt) : Prop := ∃ f fd, Fun K m qual st f fd ∧ Meth K C m f
theorem mthIn_mk {K : PySem.W.Frag} {C f : Addr} {m qual : Str} {st : Stmt} {oc : Value} {od an : Option Addr} {osl : Array (Option Value)} {kV doc pm cdv ct : Value} (a : PySem.W.findIn K (.ref C) m = some (some (.ref f))) (i : PySem.W.isFn K (.ref f) = true) (l : K.lookup f = some ⟨oc, od, .func (PySem.W.fnOf m qual (defArgs st) (defBody st) (defScope st) .none kV doc pm an cdv ct), osl⟩) (c : PySem.W.codeIn K cdv qual = true) (k : PySem.W.keepIn K (.ref f) = true) : MthIn K C m qual st := ⟨f, _, fun_mk l c k, a, i, k⟩
def MthCIn (K : PySem.W.Frag) (C c : Addr) (m qual : Str) (st : Stmt) : Prop := ∃ f fd, Fun K m qual st f fd ∧ Meth K C m f ∧ fd.code = .ref c
theorem mthCIn_mk {K : PySem.W.Frag} {C f cc : Addr} {m qual : Str} {st : Stmt} {oc : Value} {od an : Option Addr} {osl : Array (Option Value)} {kV doc pm ct : Value} (a : PySem.W.findIn K (.ref C) m = some (some (.ref f))) (i : PySem.W.isFn K (.ref f) = true) (l : K.lookup f = some ⟨oc, od, .func (PySem.W.fnOf m qual (defArgs st) (defBody st) (defScope st) .none kV doc pm an (.ref cc) ct), osl⟩) (c : PySem.W.codeIn K (.ref cc) qual = true) (k : PySem.W.keepIn K (.ref f) = true) : MthCIn K C cc m qual st := ⟨f, _, fun_mk l c k, ⟨a, i, k⟩, rfl⟩
def IniIn (K : PySem.W.Frag) (C : Addr) (qual : Str) (st : Stmt) : Prop := ∃ f fd, Fun K "__init__" qual st f fd ∧ Mk K C f
theorem iniIn_mk {K : PySem.W.Frag} {C f : Addr} {qual : Str} {st : Stmt} {oc : Value} {od an : Option Addr} {osl : Array (Option Value)} {kV doc pm cdv ct : Value} (a : PySem.W.findIn K (.ref C) "__init__" = some (some (.ref f))) (i : PySem.W.isFn K (.ref f) = true) (l : K.lookup f = some ⟨oc, od, .func (PySem.W.fnOf "__init__" qual (defArgs st) (defBody st) (defScope st) .none kV doc pm an cdv ct), osl⟩) (c : PySem.W.codeIn K cdv qual = true) (k : PySem.W.keepIn K (.ref f) = true) (m1 : PySem.W.makesIn K C = true) (m2 : PySem.W.keepIn K (.ref C) = true) : IniIn K C qual st := ⟨f, _, fun_mk l c k, m1, a, i, m2⟩
theorem all_mk {l : PySem.W.OpenLaw} {w : World} {K : PySem.W.Frag} {h : Heap} {mg : Str → Option Value} {fa C c Ta : Addr} (X : K.In h) (G : h.Ns mainGlobals mg) (hfa : mg "law" = some (.ref fa)) (hcd : PySem.W.codeHdIn K c Ta = true)
    (f1 : ∃ f fd, FnIn K "_law_whole" s_law_whole f fd) (f2 : ∃ f fd, FnIn K "_law_step" s_law_step f fd) (f3 : ∃ f fd, FnIn K "_law_good" s_law_good f fd) (f4 : ∃ f fd, FnIn K "law" s_law f fd)
    (z1 : PySem.W.nsIn K mainGlobals "len" = some none) (z2 : PySem.W.nsIn K mainGlobals "isinstance" = some none) (z3 : PySem.W.nsIn K mainGlobals "int" = some none) (z4 : PySem.W.nsIn K mainGlobals "bool" = some none) (z5 : PySem.W.nsIn K mainGlobals "sorted" = some none) (z6 : PySem.W.nsIn K mainGlobals "max" = some none) (z7 : PySem.W.nsIn K mainGlobals "range" = some none)
    (p0 : PySem.W.nsIn K mainGlobals "Counts" = some (some (.ref C))) (p1 : PySem.W.plainGet K C Str.empty = true) (p2 : PySem.W.hasDictIn K C = true) (p3 : PySem.W.plainOver K C = true) (p4 : PySem.W.findIn K (.ref C) "__setattr__" = some (some (.builtin "object.__setattr__"))) (p5 : PySem.W.findIn K (.ref C) "led" = some none)
    (j0 : IniIn K C "Counts.__init__" s_Counts_init) (m1 : MthIn K C "note" "Counts.note" s_Counts_note) (m2 : MthIn K C "often" "Counts.often" s_Counts_often) (m3 : MthCIn K C c "guess" "Counts.guess" s_Counts_guess) :
    ∃ fd : FuncData, (∀ (s : Shared) (v : Value), BindsTo s fd ⟨[v], []⟩ [("script", v)]) ∧ ∀ base : Heap, K.In base → base.Ns mainGlobals mg → base.BuiltinsAt mg Ta → FnOk l.prog w K mg base CX0 20 fa fd ["script"] (spL5 K Ta) := by
  have T : Txt mg := ⟨PySem.W.mg_none_of X G z1, PySem.W.mg_none_of X G z2, PySem.W.mg_none_of X G z3, PySem.W.mg_none_of X G z4, PySem.W.mg_none_of X G z5, PySem.W.mg_none_of X G z6, PySem.W.mg_none_of X G z7⟩
  have CC : ClsC K mg C := ⟨⟨p1, p2, p3, p4⟩, p5, PySem.W.mg_of X G p0⟩
  obtain ⟨a1, b1, F1⟩ := f1
  obtain ⟨a2, b2, F2⟩ := f2
  obtain ⟨a3, b3, F3⟩ := f3
  obtain ⟨a4, b4, F4⟩ := f4
  obtain ⟨ai, bi, FI, MI⟩ := j0
  obtain ⟨am1, bm1, FM1, MM1⟩ := m1
  obtain ⟨am2, bm2, FM2, MM2⟩ := m2
  obtain ⟨am3, bm3, FM3, MM3, ec3⟩ := m3
  have e := hfa.symm.trans (PySem.W.mg_of X G F4.ns)
  cases e
  have bs : ∀ (s : Shared) (v : Value), BindsTo s b4 ⟨[v], []⟩ [("script", v)] := by
    obtain ⟨oc, od, kV, doc, pm, an, cdv, ct, osl, rfl, _⟩ := F4.fn.ex
    exact fun s v => .of_eq rfl
  refine ⟨b4, bs, fun base KB NB BB => ?_⟩
  have D1 : DFn l.prog w K mg base 1 "_law_whole" F_whl := d_whl T F1.fn (PySem.W.mg_of X G F1.ns)
  have D2 : DFn l.prog w K mg base 1 "_law_step" F_stp := d_law_step F2.fn (PySem.W.mg_of X G F2.ns)
  have S2 : StFn l.prog w K mg base 1 := st_step F2.fn (PySem.W.mg_of X G F2.ns)
  have CI : CiFn l.prog w K mg base 1 C := ci_init CC FI MI
  have M1 : NtFn l.prog w K mg base 1 C := nt_note CC FM1 MM1
  have M2 : MFn l.prog w K mg base 1 C "often" (F_oft C) := m_often CC FM2 MM2
  have M3 : TbM l.prog w K mg base 2 (tb54 Ta) C "guess" (F_gue C) := t_guess T CC (PySem.W.codeHd_of_K KB hcd) BB FM3 ec3 MM3
  have T3 := t_law_good T CC M2 M3 D1 F3.fn (PySem.W.mg_of X G F3.ns)
  exact ok_law T CC CI M1 S2 D2 T3 F4.fn
theorem law_sp {K : PySem.W.Frag} {Ta a : Addr} {H : Hp} {ns : List Int} (hT : H Ta = some (.tbl #[])) (hS : SqL K H a (ns.map V.int)) (ha : a ≠ Ta) : spL5 K Ta [.ref a] H (fun v _ => v = .bl true) fun _ _ _ => False := ⟨a, ns, rfl, hT, hS, ha, fun _ => rfl⟩
end
end My
open PySem PySem.W PyProof.Rows
set_option maxRecDepth 100000 in
set_option maxHeartbeats 0 in
theorem PySem.Challenge.cw_likewise_k54_steps_counted_holds : PySem.Challenge.rw_likewise_k54_steps_counted.Holds := by
  w_on; o_law; k_head; (case hw => w_witness2)
  k_fill
  refine L2.walk_T (l := PySem.Challenge.rw_likewise_k54_steps_counted) (n := 63) (k := 20) (x := "script") (T := 51) (c := 55) (CX := fun _ => L2.CX0) (sp := fun w => My.spL5 _ 51) rfl (by decide) rfl ⟨rfl, by decide, by decide⟩ (fun w h Y => ⟨PySem.W.km_in_of Y, PySem.W.km_tabs_of Y 51 List.mem_cons_self⟩) (fun w => ?kt7) (fun w => ?hq7) ?F (fun w H a ns _ hT hS ha => My.law_sp hT hS ha) (fun _ _ _ _ _ z => z)
  case kt7 => kernel_rfl
  case hq7 => kernel_rfl
  case F =>
    intro w mg fa h KX G hmg
    refine' My.all_mk KX G hmg ?hcd ?f1 ?f2 ?f3 ?f4 ?z1 ?z2 ?z3 ?z4 ?z5 ?z6 ?z7 ?p0 ?p1 ?p2 ?p3 ?p4 ?p5 ?j0 ?m1 ?m2 ?m3
    (case f1 => refine' L2.fnIn_mk ?a ?l ?c ?k; (case a => k_is); (case l => k_is); (case c => k_is); (case k => k_is))
    (case f2 => refine' L2.fnIn_mk ?a ?l ?c ?k; (case a => k_is); (case l => k_is); (case c => k_is); (case k => k_is))
    (case f3 => refine' L2.fnIn_mk ?a ?l ?c ?k; (case a => k_is); (case l => k_is); (case c => k_is); (case k => k_is))
    (case f4 => refine' L2.fnIn_mk ?a ?l ?c ?k; (case a => k_is); (case l => k_is); (case c => k_is); (case k => k_is))
    (case z1 => k_is)
    (case z2 => k_is)
    (case z3 => k_is)
    (case z4 => k_is)
    (case z5 => k_is)
    (case z6 => k_is)
    (case z7 => k_is)
    (case p0 => k_is)
    (case p1 => k_is)
    (case p2 => k_is)
    (case p3 => k_is)
    (case p4 => k_is)
    (case p5 => k_is)
    (case j0 => refine' My.iniIn_mk ?a ?i ?l ?c ?k ?mk1 ?mk2; (case a => k_is); (case i => k_is); (case l => k_is); (case c => k_is); (case k => k_is); (case mk1 => k_is); (case mk2 => k_is))
    (case m1 => refine' My.mthIn_mk ?a ?i ?l ?c ?k; (case a => k_is); (case i => k_is); (case l => k_is); (case c => k_is); (case k => k_is))
    (case m2 => refine' My.mthIn_mk ?a ?i ?l ?c ?k; (case a => k_is); (case i => k_is); (case l => k_is); (case c => k_is); (case k => k_is))
    (case m3 => refine' My.mthCIn_mk ?a ?i ?l ?c ?k; (case a => k_is); (case i => k_is); (case l => k_is); (case c => k_is); (case k => k_is))
    (case hcd => kernel_rfl)
